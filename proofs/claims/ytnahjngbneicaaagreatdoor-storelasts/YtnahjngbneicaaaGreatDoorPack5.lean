import Derived.Test.YtnahjngbneicaaaGreatDoorPack4
import Derived.Test.YtnahjngbneicaaaGreatDoorPack2
import Derived.Shelf.Slices.Empties2
import Derived.Shelf.Slices.Clone
import Derived.Shelf.Slices.Cells
import Derived.Shelf.Spec.SlicesInsertGrow
import Derived.Deep.DeepAppendWide
namespace Go.Proofs.YtnahjngbneicaaaGreatDoor
open _root_.Go.Proofs.Tryz
open List (append_nil drop_drop eq_nil_of_length_eq_zero length_append length_cons length_drop length_set length_take map_cons map_nil mem_cons take_length)
set_option maxHeartbeats 4000000
set_option maxRecDepth 100000
open Go.RowKit
variable {L l:List Ent} {B B' N T b c cap g i j n o:Nat} {a w w':World} {v v':Value} {p:Ent->Bool} {d:Dk} {cs cur:Array Value} {e:Ent}
def Cnt (l:List UInt8) (c:Nat):Prop:=
 (c=0∧∀ j,j<10->j<l.length->128<=(l.getD j 0).toNat)∨
 (1<=c∧c<=10∧c<=l.length∧(∀ j,j+1<c->128<=(l.getD j 0).toNat)∧(l.getD (c-1) 0).toNat<128)
theorem Zuz (v:Value) (l:List UInt8) (w:World) (t:Rd w v l):
 Calls prog 222 #[v] w fun e w'=>∃ c:Nat,e=.returned (.int .i64 (c:Int))∧Cnt l c∧w'=w:=by
 obtain⟨ao,cap,rfl,I,z,u,f⟩:=t;clear u;have G:(l.length:Int)<=9223372036854775807:=by unfold maxLen at z;omega
 by_cases D:(l.length:Int)<=10
 all_goals
  go_enter func222,ntmps222
  go_wp2
  go_loop [7] (fun i=>∃ k:Nat,i=.int .i64 k∧k<=10∧k<=l.length∧Hid (∀ j,j<k->128<=(l.getD j 0).toNat)) (fun i=>10-(intOf i).toNat)
  case atStart=>exact⟨0,rfl,by omega,by omega,fun j g=>by omega⟩
  case round=>
   obtain⟨k,rfl,F,E,a⟩:=hrel;by_cases p:k<10∧k<l.length
   ·obtain⟨p,q⟩:=p
    rcases f with f | ⟨b,A,rfl,n⟩
    ·subst f;simp at q
    ·have x:=n k q
     clear n;obtain⟨y,d⟩:∃ y,y=(l.getD k 0).toNat:=⟨_,rfl⟩;rw[<-d] at x;have m:Hid (y=(l.getD k 0).toNat):=d;clear d;by_cases C:(y:Int)<128
     ·go_wp2
      go_ret;refine⟨k+1,ZbV (by omega),.inr ⟨by omega,by omega,by omega,fun j g=>a.out j (by omega),?_⟩,rfl⟩
      rw[Nat.add_sub_cancel,<-m.o];omega
     ·go_wp2
      go_round
      case rel=>
       refine⟨k+1,by go_num,by omega,by omega,fun j g=>?_⟩
       by_cases e:j=k
       ·rw[e,<-m.o];omega
       ·exact a.out j (by omega)
      case measure=>simp[intOf];omega
   ·go_wp2
    go_ret;exact⟨0,rfl,.inl ⟨rfl,fun j H B=>a.out j (by omega)⟩,rfl⟩
theorem Zse {l:List UInt8} (h:Cnt l 0):Qe l=(0,0):=by
 rcases h with ⟨_,h⟩ | h
 ·unfold Qe
  rw[Zld 10 l h]
 ·omega
theorem Zlu {l:List UInt8} (h:Cnt l (c+1)):c<10∧c<l.length∧(l.getD c 0).toNat<128∧
 dec 10 l=if 0<c∧(l.getD c 0).toNat=0 then none else some (val (l.take (c+1)),c+1):=by
 rcases h with h | ⟨f,g,i,b,d⟩
 ·omega
 ·have a:(l.getD c 0).toNat<128:=by simpa using d
  exact⟨by omega,by omega,a,ZtW c 10 l (by omega) (by omega) (fun j e=>b j (by omega)) a⟩
theorem ZdP (l:List UInt8) (k:Nat) (h:k<=l.length):val (l.take k)<128 ^ k:=by
 have:=Zye (l.take k)
 rwa [length_take,Nat.min_eq_left h] at this
theorem ZuA {l:List UInt8} (h:Cnt l 10) (j:(l.getD 9 0).toNat≠1):Qe l=(0,0):=by
 obtain⟨k,f,g,c⟩:=Zlu h;unfold Qe;rw[c];by_cases b:(l.getD 9 0).toNat=0
 ·rw[if_pos ⟨by omega,b⟩]
 ·rw[if_neg (fun e=>b e.2)]
  have a:=Zej l 9 f;have i:(l.getD 9 0).toNat % 128=(l.getD 9 0).toNat:=Nat.mod_eq_of_lt g;rw[i] at a;have d:128 ^ 9=9223372036854775808:=by decide
  rw[d] at a;have:¬ val (l.take (9+1))<18446744073709551616:=by omega
  simp only [this,if_false]
theorem Zpc {l:List UInt8} (h:Cnt l (c+1)) (d:0<c) (b:(l.getD c 0).toNat=0):Qe l=(0,0):=by
 obtain⟨e,f,g,a⟩:=Zlu h;unfold Qe;rw[a,if_pos ⟨d,b⟩]
theorem Zsf {l:List UInt8} (h:Cnt l (c+1)) (g:c=9->(l.getD c 0).toNat=1) (k:0<c->(l.getD c 0).toNat≠0):
 Qe l=(val (l.take (c+1)),c+1)∧val (l.take (c+1))<18446744073709551616:=by
 obtain⟨m,i,n,f⟩:=Zlu h
 have d:val (l.take (c+1))<18446744073709551616:=by
  by_cases e:c=9
  ·subst e
   have a:=Zej l 9 i;have j:=ZdP l 9 (by omega)
   rw[g rfl] at a;have b:128 ^ 9=9223372036854775808:=by decide
   rw[b] at a j;omega
  ·have a:=ZdP l (c+1) (by omega)
   have p:128 ^ (c+1)<=128 ^ 9:=Nat.pow_le_pow_right (by decide) (by omega)
   have b:128 ^ 9=9223372036854775808:=by decide
   omega
 refine⟨?_,d⟩;unfold Qe;rw[f,if_neg (fun e=>k e.1 e.2)]
 simp only [d,if_true]
theorem Zyi (k y x:Nat) (f:k<64) (c:y<2 ^ k) (b:x*2 ^ k<18446744073709551616):
 bits .or .u64 (y:Int) (IntKind.u64.wrap ((x:Int)*2 ^ k))=((y+x*2 ^ k:Nat):Int):=by
 have e:((x:Int)*2 ^ k)=((x*2 ^ k:Nat):Int):=by simp
 have a:((2 ^ k:Nat):Int)=(2:Int) ^ k:=by simp
 have d:(2:Nat) ^ k<=2 ^ 64:=Nat.pow_le_pow_right (by decide) (by omega)
 rw[e,wraps_u64 _ (by omega) (by omega),bits_join_low .u64 64 (by decide) wraps_u64 k (y:Int) ((x*2 ^ k:Nat):Int) (by omega) (by rw[<-a];omega) (by omega) (by omega) (by rw[<-a];simp) (by omega)]
 omega
theorem ZyJ (l:List UInt8) (k:Nat) (d:k<l.length) (m:k<10) (g:k=9->(l.getD k 0).toNat % 128<=1):
 bits .or .u64 ((val (l.take k):Nat):Int) (IntKind.u64.wrap (((l.getD k 0).toNat:Int) % 128*2 ^ (7*k)))=((val (l.take (k+1)):Nat):Int):=by
 have b:=ZdP l k (by omega)
 rw[Zej l k d,<-pow7];rw[<-pow7] at b;have e:(((l.getD k 0).toNat:Int) % 128)=(((l.getD k 0).toNat % 128:Nat):Int):=by omega
 rw[e];refine Zyi (7*k) _ _ (by omega) b ?_
 by_cases a:k=9
 ·have:=g a
  subst a;have c:2 ^ (7*9)=9223372036854775808:=by decide
  rw[c];omega
 ·have f:2 ^ (7*k)<=2 ^ 56:=Nat.pow_le_pow_right (by decide) (by omega)
  have i:(l.getD k 0).toNat % 128<=127:=by omega
  have:=Nat.mul_le_mul i f;have j:127*2 ^ 56<18446744073709551616:=by decide
  omega
theorem Zkl (v:Value) (l:List UInt8) (w:World) (B:Rd w v l):
 Calls prog 207 #[v] w fun e w'=>e=.returned (.tuple #[.int .u64 ((Qe l).1:Nat),.int .i64 ((Qe l).2:Nat)])∧w'=w:=by
 have E:=Zuz v l w B;obtain⟨ao,cap,rfl,ac,aa,K,t⟩:=B;clear K;have C:=ZZ E;clear E
 go_enter func207,ntmps207
 go_wp2_with fail
 refine C.o.mono ?_;rintro e w' ⟨c,rfl,a,rfl⟩;have a:Hid (Cnt l c):=a;clear C
 cases c with
 | zero=>
  have H:Hid (Qe l=(0,0)):=Zse a.out;go_wp2;go_ret2;exact⟨by rw[H.out];rfl,rfl⟩
 | succ c=>
  obtain⟨Y,F,R,P⟩:=Zlu a.out;clear P;rcases t with t | ⟨b,W,rfl,A⟩
  ·subst t;simp at F
  have D:=A c F;obtain⟨y,n⟩:∃ y,y=(l.getD c 0).toNat:=⟨_,rfl⟩;rw[<-n] at D R;have d:Hid (y=(l.getD c 0).toNat):=n;have I:=ZZ A;clear n A;by_cases f:(c=9∧y≠1)∨(0<c∧y=0)
  ·have H:Hid (Qe l=(0,0)):=by
    rcases f with ⟨m,L⟩ | ⟨O,J⟩
    ·subst m
     exact ZuA a.out (by rw[<-d.o];exact L)
    ·exact Zpc a.out O (by rw[<-d.o];exact J)
   by_cases m:c=9
   ·have j:(((c:Int)+1) == 10)=true:=beq_iff_eq.2 (by omega)
    have M:((y:Int) != 1)=true:=by rw[bne_iff_ne];omega
    clear f m;go_wp2;go_ret2;exact⟨by rw[H.out];rfl,rfl⟩
   ·have j:(((c:Int)+1) == 10)=false:=beq_eq_false_iff_ne.2 (by omega)
    have p:(1:Int)<(c:Int)+1:=by omega
    have G:((y:Int) == 0)=true:=beq_iff_eq.2 (by omega)
    clear f m;go_wp2;go_ret2;exact⟨by rw[H.out];rfl,rfl⟩
  ·have H:Hid (Qe l=(val (l.take (c+1)),c+1)∧val (l.take (c+1))<18446744073709551616):=Zsf a.out (fun h=>by rw[<-d.o];omega) (fun h=>by rw[<-d.o];omega)
   have hw3:(c=9∧y=1)∨c=0∨(0<c∧c<9∧y≠0):=by omega
   have T:Hid (c=9->y=1):=fun h=>by omega
   clear f;rcases hw3 with hw3 | hw3 | hw3
   all_goals
    first
     | (have j:(((c:Int)+1) == 10)=true:=beq_iff_eq.2 (by omega)
        have M:((y:Int) != 1)=false:=by rw[bne_eq_false_iff_eq];omega
        have p:(1:Int)<(c:Int)+1:=by omega
        have G:((y:Int) == 0)=false:=beq_eq_false_iff_ne.2 (by omega))
     | (have j:(((c:Int)+1) == 10)=false:=beq_eq_false_iff_ne.2 (by omega)
        have p:¬ (1:Int)<(c:Int)+1:=by omega)
     | (have j:(((c:Int)+1) == 10)=false:=beq_eq_false_iff_ne.2 (by omega)
        have p:(1:Int)<(c:Int)+1:=by omega
        have G:((y:Int) == 0)=false:=beq_eq_false_iff_ne.2 (by omega))
    clear hw3;have Z:(((c:Int)+1) == 0)=false:=beq_eq_false_iff_ne.2 (by omega)
    go_wp2
    go_loop [5,35] (fun u i=>∃ k:Nat,k<=c+1∧i=.int .i64 k∧u=.int .u64 (val (l.take k):Nat)) (fun _ i=>c+1-(intOf i).toNat)
    case atStart=>exact⟨0,Nat.zero_le _,rfl,rfl⟩
    case round=>
     obtain⟨k,hk,rfl,rfl⟩:=hrel;by_cases ab:k<c+1
     ·have S:=I.o k (by omega)
      obtain⟨x,g⟩:∃ x,x=(l.getD k 0).toNat:=⟨_,rfl⟩;rw[<-g] at S;have X:x<256:=by rw[g];exact UInt8.toNat_lt _
      have U:=ZZ g;clear g;obtain⟨z,q⟩:∃ z,z=val (l.take k):=⟨_,rfl⟩;rw[<-q];have Q:=ZZ q;clear q D;go_wp2
      go_round
      case rel=>
       refine⟨k+1,by omega,by go_num,?_⟩
       rw[Q.o,U.o,ZyJ l k (by omega) (by omega) (fun h=>?_)]
       have N:c=k:=by omega
       rw[<-N,<-d.o,T.o (by omega)]
       decide
      case measure=>simp[intOf];omega
     ·go_wp2
      go_ret2;have V:k=c+1:=by omega
      rw[H.out.1,V];exact⟨rfl,rfl⟩
theorem ZcJ (v:Value) (l:List UInt8) (w:World) (g:Rd w v l):
 Calls prog 168 #[v] w fun e w'=>e=.returned (.tuple #[.int .i64 ((Qb l).1:Nat),.int .i64 ((Qb l).2:Nat)])∧w'=w:=by
 have a:=ZZ (Zkl v l w g);have H:Hid (Qb l=if(Qe l).1<4611686018427387904 then Qe l else(0,0)):=rfl
 generalize Qe l=d at *;obtain⟨u,k⟩:=d;obtain⟨U,b⟩:∃ U:Int,U=(u:Int):=⟨_,rfl⟩;simp only at a H;rw[<-b] at a;have i:0<=U:=by omega
 have c:=ZZ b;clear b;by_cases j:U<4611686018427387904
 ·go_enter func168,ntmps168
  go_wp2_with fail
  refine a.o.mono ?_;rintro e w' ⟨rfl,rfl⟩;go_wp2;go_ret2;have e:=H.out;have f:=c.o;rw[if_pos (by omega)] at e
  rw[e];exact⟨by rw[f];rfl,rfl⟩
 ·go_enter func168,ntmps168
  go_wp2_with fail
  refine a.o.mono ?_;rintro e w' ⟨rfl,rfl⟩;go_wp2;go_ret2;have e:=H.out;have f:=c.o;rw[if_neg (by omega)] at e
  rw[e];exact⟨rfl,rfl⟩
theorem Zak (v:Value) (l:List UInt8) (w:World) (c:Rd w v l):
 Calls prog 201 #[v] w fun e w'=>e=.returned (.tuple #[.int .i64 (zag (Qe l).1),.int .i64 ((Qe l).2:Nat)])∧w'=w:=by
 have b:=ZZ (Zkl v l w c);have a:=Zle l;have f:=G0 l;generalize Qe l=d at *;obtain⟨u,k⟩:=d;simp only at b a f
 go_enter func201,ntmps201
 go_wp2_with fail
 refine b.o.mono ?_;rintro e w' ⟨rfl,rfl⟩
 go_wp2_with fail
 refine(Zyt u _ a).mono ?_;rintro e g ⟨rfl,rfl⟩;go_wp2;go_ret2;exact⟨rfl,rfl⟩
theorem Zgl:∀ (k v:Nat),Lib.leBytes (k+1) v=Lib.leBytes k v++[(v / 256 ^ k % 256).toUInt8]
 | 0,v=>by simp[Lib.leBytes]
 | k+1,v=>by
  have a:=Zgl k (v / 256);have e:v / 256 / 256 ^ k=v / 256 ^ (k+1):=by rw[Nat.div_div_eq_div_mul,Nat.pow_succ,Nat.mul_comm]
  rw[Lib.leBytes,a,e];simp[Lib.leBytes]
def ZhW (c k v:Nat):List UInt8:=Lib.leBytes k v++List.replicate (c-k) 0
theorem Znd (c k v:Nat) (h:k<=c):(ZhW c k v).length=c:=by
 simp[ZhW,Lib.leBytes_length];omega
theorem ZuB (c k v:Nat) (h:k<c):(Lib.byteCells (ZhW c k v)).set k (.int .u8 ((v / 256 ^ k % 256:Nat):Int))=Lib.byteCells (ZhW c (k+1) v):=by
 have e:c-k=(c-(k+1))+1:=by omega
 unfold ZhW;rw[Zgl,e,List.replicate_succ];have a:(Lib.byteCells (Lib.leBytes k v)).length=k:=by rw[Y0,Lib.leBytes_length]
 have b:((v / 256 ^ k % 256).toUInt8).toNat=v / 256 ^ k % 256:=Lib.toUInt8_toNat (Nat.mod_lt _ (by decide))
 simp only [Lib.byteCells,List.map_append,map_cons,map_nil,b] at a ⊢;rw[List.set_append_right _ _ (by omega),a]
 simp
theorem ZAm (k:Nat):2 ^ (8*k)=256 ^ k:=by rw[Nat.pow_mul]
theorem ZuC (v k:Nat):((v:Int) / 2 ^ (8*k)) % 256=((v / 256 ^ k % 256:Nat):Int):=by
 rw[<-ZAm];simp
theorem Zsg (v c:Nat) (w:World) (C:c<=8):
 Calls prog 186 #[.int .u64 (v:Int),.int .i64 (c:Int)] w fun e w'=>∃ v',e=.returned v'∧Own w' w.heap.size v' (Lib.leBytes c v)∧Below w.heap.size w w':=by
 obtain⟨A,u,B,t,x⟩:=info_parts Zlf
 go_enter func186,ntmps186
 go_wp2_with(at_make;refine wpList_make_full _ rfl _ _ 53 rfl w.heap.size 5 A (.int .u8 0) 1 underlying53 u B t _ _ _ _ c rfl rfl rfl rfl (by rw[x];omega) (by unfold maxLen;omega) zL ?_)
 intro f m n;have d:Below w.heap.size w f:=(Below.refl _ _).grown n zL (fun k b=>by cases b)
 have g:f.ownsRow w.heap.size 5 1 (.slice (some ⟨w.heap.size,0,none⟩) c c) c (Lib.byteCells (ZhW c 0 v)):=by
  have e:(madeCells #[Value.int .u8 0] c).toList=Lib.byteCells (ZhW c 0 v):=by
   rw[toList_madeCells_one];simp[ZhW,Lib.leBytes,Lib.byteCells]
  rw[<-e];exact m
 have z:=ZZ g;have y:=ZZ d;clear m g d n;go_wp2
 go_loopw[11] (fun i wr=>∃ k:Nat,k<=c∧i=.int .i64 (k:Int)∧Hid (wr.ownsRow w.heap.size 5 1 (.slice (some ⟨w.heap.size,0,none⟩) c c) c (Lib.byteCells (ZhW c k v)))∧Hid (Below w.heap.size w wr)) (fun i _=>c-(intOf i).toNat)
 case atStart=>exact⟨0,Nat.zero_le _,rfl,z,y⟩
 case round=>
  obtain⟨k,b,rfl,a,j⟩:=hrel;by_cases p:k<c
  ·have E:wr.cell? ⟨w.heap.size,k,none⟩=some (.int .u8 ((ZhW c k v).getD k 0).toNat):=by
    rw[World.ownsRow.cellAt a.out k (by omega),ZbU _ _ (by rw[Znd c k v b];exact p)]
   have D:wr.frozen? ⟨w.heap.size,k,none⟩=false:=World.ownsRow.frozenAt a.out k;go_wp2;go_roundw
   case rel=>
    have q:=World.ownsRow.stored a.out k (Value.int .u8 ((v / 256 ^ k % 256:Nat):Int));rw[ZuB c k v p] at q;rw[ZuC];exact⟨k+1,by omega,by go_num,q.1,j.out.setCell zL _⟩
   case measure=>simp[intOf];omega
  ·go_wp2
   go_ret;have e:k=c:=by omega
   refine⟨_,rfl,Own.mk' (l:=Lib.leBytes c v) a.out (by rw[Lib.leBytes_length]) ?_,j.out⟩
   rw[e];simp[ZhW]
theorem ZhX (v:Nat) (w:World) (h:v<4294967296):
 Calls prog 135 #[.int .u32 (v:Int)] w fun e w'=>∃ v',e=.returned v'∧Own w' w.heap.size v' (Lib.leBytes 4 v)∧Below w.heap.size w w':=by
 have a:Hid (Calls prog 186 #[.int .u64 (v:Int),.int .i64 4] w fun e w'=>∃ v',e=.returned v'∧Own w' w.heap.size v' (Lib.leBytes 4 v)∧Below w.heap.size w w'):=Zsg v 4 w (by omega)
 obtain⟨U,c⟩:∃ U:Int,U=(v:Int):=⟨_,rfl⟩;have j:0<=U:=by omega
 have i:U<4294967296:=by omega
 rw[<-c] at a ⊢;clear c h
 go_enter func135,ntmps135
 go_wp2_with fail
 refine a.o.mono ?_;rintro e w' ⟨v',rfl,d,b⟩;have f:=ZZ d;have g:=ZZ b;clear d b a;go_wp2;go_ret;exact⟨v',rfl,f.o,g.o⟩
theorem Zlv:∀ l:List UInt8,Lib.leNat l<256 ^ l.length
 | []=>by simp[Lib.leNat]
 | c::r=>by
  have h:=Zlv r;have a:=c.toNat_lt;simp only [Lib.leNat,length_cons,Nat.pow_succ];omega
theorem Zkm:∀ (l:List UInt8) (c:UInt8),Lib.leNat (l++[c])=Lib.leNat l+c.toNat*256 ^ l.length
 | [],c=>by simp[Lib.leNat]
 | d::r,c=>by
  have h:=Zkm r c;simp only [List.cons_append,Lib.leNat,length_cons,Nat.pow_succ,h];rw[Nat.mul_add,<-Nat.mul_assoc,Nat.mul_comm 256 c.toNat,Nat.mul_assoc,Nat.mul_comm 256 (256 ^ r.length)];omega
theorem Zsh (l:List UInt8) (k:Nat) (h:k<l.length):Lib.leNat (l.take (k+1))=Lib.leNat (l.take k)+(l.getD k 0).toNat*256 ^ k:=by
 rw[Zhk l k h,Zkm,length_take,Nat.min_eq_left (by omega)]
theorem Zlw (l:List UInt8) (k:Nat) (h:k<=l.length):Lib.leNat (l.take k)<256 ^ k:=by
 have:=Zlv (l.take k)
 rwa [length_take,Nat.min_eq_left h] at this
theorem ZwZ (l:List UInt8) (k:Nat) (b:k<l.length) (g:k<8):
 bits .or .u64 ((Lib.leNat (l.take k):Nat):Int) (IntKind.u64.wrap (((l.getD k 0).toNat:Int)*2 ^ (8*k)))=((Lib.leNat (l.take (k+1)):Nat):Int):=by
 have a:=Zlw l k (by omega)
 rw[Zsh l k b,<-ZAm];rw[<-ZAm] at a;refine Zyi (8*k) _ _ (by omega) a ?_
 have c:2 ^ (8*k)<=2 ^ 56:=Nat.pow_le_pow_right (by decide) (by omega)
 have f:=(l.getD k 0).toNat_lt;have d:(l.getD k 0).toNat<=255:=by omega
 have:=Nat.mul_le_mul d c;have e:255*2 ^ 56<18446744073709551616:=by decide
 omega
theorem Zne (v:Value) (l:List UInt8) (w:World) (g:Rd w v l):
 Calls prog 161 #[v] w fun e w'=>e=.returned (.int .u64 (Lib.leNat (l.take 8):Nat))∧w'=w:=by
 obtain⟨ao,cap,rfl,D,m,j,c⟩:=g;clear j;have C:(l.length:Int)<=9223372036854775807:=by unfold maxLen at m;omega
 by_cases t:(l.length:Int)<=8
 all_goals
  go_enter func161,ntmps161
  go_wp2
  go_loop [3,8] (fun n i=>∃ k:Nat,i=.int .i64 k∧k<=8∧k<=l.length∧n=.int .u64 (Lib.leNat (l.take k):Nat)) (fun _ i=>8-(intOf i).toNat)
  case atStart=>exact⟨0,rfl,by omega,by omega,rfl⟩
  case round=>
   obtain⟨k,rfl,B,A,rfl⟩:=hrel;by_cases a:k<8∧k<l.length
   ·obtain⟨a,d⟩:=a
    rcases c with c | ⟨b,q,rfl,f⟩
    ·subst c;simp at d
    ·have u:=f k d
     have p:=ZZ (ZwZ l k d a);have x:(l.getD k 0).toNat<256:=UInt8.toNat_lt _;clear f;generalize (l.getD k 0).toNat=y at *;generalize Lib.leNat (l.take k)=z at *;go_wp2
     go_round
     case rel=>exact⟨k+1,by go_num,by omega,by omega,by rw[p.o]⟩
     case measure=>simp[intOf];omega
   ·go_wp2
    go_ret;refine⟨ZbV ?_,rfl⟩;by_cases e:k=8
    ·rw[e]
    ·rw[List.take_of_length_le (by omega:l.length<=k),List.take_of_length_le (by omega:l.length<=8)]
def bs (l:List UInt8):ByteArray:=⟨l.toArray⟩
theorem ZuD (l:List UInt8):(bs l).toList=l:=ByteArray.toList_mk l
theorem ZAn (a b:List UInt8):((bs a).toList == (bs b).toList)=(a == b):=by rw[ZuD,ZuD]
theorem Rd.str {l:List UInt8} (h:Rd w v l):(convert 53 9 v).run prog w=.ok (.string (bs l)) w:=by
 obtain⟨ao,cap,rfl,_,_,d,h⟩:=h
 cases ao with
 | none=>
  have b:l=[]:=eq_nil_of_length_eq_zero (by have:=d rfl;omega)
  subst b;exact run_convert_bytes_nil w 53 5 underlying53 underlying5 0 cap 9 underlying9
 | some a=>
  have b:(loadCells a l.length).run prog w=.ok ((l.map fun c=>(c.toNat:Int)).map (Value.int .u8)).toArray w:=by
   have:=run_loadCells_list (P:=prog) w a (Lib.byteCells l) (Rd.cells h a rfl);rw[Y0] at this;rw[this];simp[Lib.byteCells,Function.comp_def]
  rw[run_convert_bytes_string w 53 9 5 _ l.length cap underlying53 underlying5 underlying9,run_bytesToString w _ l.length cap _ b,foldl_push_bytes]
  have e:(List.map (fun n:Int=>UInt8.ofNat n.toNat) (List.map (fun c:UInt8=>(c.toNat:Int)) l))=l:=by
   rw[List.map_map]
   conv=>rhs;rw[<-List.map_id l]
   apply List.map_congr_left;intro c _;simp
  rw[e];simp[bs,ByteArray.empty,ByteArray.emptyWithCapacity];rfl
def ZyK (B:Nat) (w:World) (p:Nat) (d:Dk) (N T:Nat):Prop:=∃ F,Dsk F w p d N T∧∀ k,F k->B<=k
theorem ZqP (B:Nat) (room:Int) (a:I64 room) (w:World) (d:B<=w.heap.size):
 Calls prog 9 #[.int .i64 room] w fun e w'=>∃ p,e=.returned (ptr p)∧ZyK B w' p (ZgP room) 0 0∧Below B w w':=by
 refine(ZyF room a w).mono ?_;rintro e w' ⟨p,b,f,c⟩;exact⟨p,b,⟨_,f,fun k g=>by omega⟩,c.mono d⟩
theorem Dsk.ltF {F:Nat->Prop} {p:Nat} (h:Dsk F w p d N T):∀ k,F k->k<w.heap.size:=by
 obtain⟨L,a,_⟩:=h;exact a.lt
theorem Zsi {p:Nat} (w:World) (h:ZyK B w p d N T) (a:N<=1000000):
 Calls prog 28 #[ptr p] w fun e w'=>∃ v,e=.returned v∧Qs w' w.heap.size v ((Qm d).map Prod.fst)∧Below w.heap.size w w':=by
 obtain⟨F,⟨L,b,c,_⟩,f⟩:=h;exact ZeC w b c a
theorem ZyK.ok {p:Nat} (h:ZyK B w p d N T):OkD d∧Bnd d N T:=by
 obtain⟨F,⟨L,c,b,a,_⟩,e⟩:=h;exact⟨b,a⟩
theorem Jw (w:World) (o:Obj):Below w.heap.size w (w.alloc o):=(Below.refl _ w).alloc zL o
theorem Rd.mid {ao:Option Addr} {l:List UInt8} (h:Rd w (.slice ao n cap) l) (i j m:Nat) (F:i<=j) (y:j<=l.length) (D:j<=m) (B:m<=cap):Rd w (sliced ao i j m 1) ((l.drop i).take (j-i)):=by
 obtain⟨C,A,g,E,z,f,a⟩:=h;simp only [Value.slice.injEq] at g;obtain⟨rfl,rfl,rfl⟩:=g;have c:((l.drop i).take (j-i)).length=j-i:=by simp;omega
 unfold sliced;by_cases p:m=i
 ·rw[if_pos p]
  have e:j-i=0:=by omega
  refine⟨ao,m-i,by rw[c],by omega,by omega,fun d=>by have:=f d;omega,.inl ?_⟩
  rw[e];simp
 ·rw[if_neg p]
  refine⟨ao.map (·.add (i*1)),m-i,by rw[c],by omega,by omega,fun d=>?_,?_⟩
  ·have u:ao=none:=by simpa using d
   have:=f u;omega
  ·rcases a with a | ⟨b,t,x,v⟩
   ·exact .inl (by rw[a];simp)
   ·refine .inr ⟨b,t+i,?_,fun k q=>?_⟩
    ·rw[x,Nat.mul_one,Option.map_some,Addr.add_lit]
    ·rw[c] at q
     rw[Nat.add_assoc,v (i+k) (by omega)]
     simp[List.getD,q]
theorem Jo:prog.elem 53=5:=by kernel_rfl
theorem Zce (w:World):(sizeOf 5).run prog w=.ok 1 w:=by
 obtain⟨c,b,_,a,_⟩:=info_parts Zlf;simp[sizeOf,typeInfo,b,a]
theorem Xu:prog.underlying 53=some (.slice (prog.elem 53)):=by rw[Jo];exact underlying53
theorem ZhY (w:World) (v:Value) (l:List UInt8) (a:Rd w v l) (k:IntKind) (i:Int) (c:0<=i) (d:i<=l.length):
 ∃ v',(Instr.sliceAt 53 v (some (.int k i)) none none).run prog w=.ok v' w∧Rd w v' (l.drop i.toNat):=by
 have h:=a;obtain⟨ao,cap,rfl,b,_⟩:=a;refine⟨sliced ao i.toNat l.length cap 1,?_,?_⟩
 ·rw[run_sliceAt_slice w 53 _ _ _ _ Xu,run_slice_l w 53 ao l.length cap Xu k i c (by omega),Jo,Zce]
  rfl
 ·have:=h.mid i.toNat l.length cap (by omega) zL b zL
  rw[List.take_of_length_le (by simp)] at this
  exact this
theorem ZfF (w:World) {e:Array Oper} {rest:List Oper} {o:Oper} {a:Act} {Q:Exit->Act->World->Prop} (j:o.guard=none) (x:Operand) (lo c d:Option Operand)
 (i:o.op=.slice 53 x lo c d) (l:List UInt8)
 (b:∃ v',(Instr.sliceAt 53 (a.eval x) (lo.map a.eval) (c.map a.eval) (d.map a.eval)).run prog w=.ok v' w∧Rd w v' l)
 (h:∀ v',Rd w v' l->wpList prog e Q rest (a.put o.dst v') w):wpList prog e Q (o::rest) a w:=
 wpList_plain j fun _ g=>by
  obtain⟨v',b,f⟩:=b;unfold Oper.wp execOp;simp only [i,b,Sem.run_bind,Sem.run_pure,Result.andThen_ok];exact g _ _ (h v' f)
def Zsj (e:Ent):Value:=.agg #[.int .i64 e.proc,.int .i64 e.seq,.int .i64 e.resp]
def Gq (e:Ent):Array Value:=#[.int .i64 e.proc,.int .i64 e.seq,.int .i64 e.resp]
def Zlx (e:Ent):Prop:=I64 e.proc∧I64 e.seq∧I64 e.resp
def Be (w:World) (b:Nat) (cs:Array Value):Prop:=w.heap[b]?=some (.cells cs 85 (0,0))
theorem Be.lt (h:Be w b cs):b<w.heap.size:=(Array.getElem?_eq_some_iff.1 h).1
theorem Be.below (h:Be w b cs) (a:Below B w w') (c:w.heap.size<=B):Be w' b cs:=(a.block b (by have:=h.lt;omega)).trans h
theorem Be.cell (h:Be w b cs) (j:Nat):w.cell? ⟨b,j,none⟩=cs[j]?∧w.frozen? ⟨b,j,none⟩=false:=⟨cell_of_row w b j _ _ _ h,frozen_of_row w b j _ _ h⟩
def Znf (w:World) (b o:Nat) (e:Ent):Prop:=
 w.cell? ⟨b,o,none⟩=some (.int .i64 e.proc)∧w.cell? ⟨b,o+1,none⟩=some (.int .i64 e.seq)∧w.cell? ⟨b,o+2,none⟩=some (.int .i64 e.resp)
theorem Znf.lt (h:Znf w b o e):b<w.heap.size:=World.block_lt_of_cell? w ⟨b,o,none⟩ h.1
theorem Znf.keep (h:Znf w b o e) (c:w'.heap[b]?=w.heap[b]?):Znf w' b o e:=by
 have d:∀ i,w'.cell? ⟨b,i,none⟩=w.cell? ⟨b,i,none⟩:=fun i=>World.cell?_of_block (a:=⟨b,i,none⟩) c
 unfold Znf at h ⊢;simp only [d];exact h
def RdE (w:World) (v:Value) (l:List Ent):Prop:=
 ∃ ao cap,v=.slice ao l.length cap∧l.length<=cap∧cap<=maxLen∧(ao=none->cap=0)∧(∀ e ∈ l,Zlx e)∧
  (l=[]∨∃ b off,ao=some ⟨b,off,none⟩∧∀ j,j<l.length->Znf w b (off+j*3) (l.getD j Xi))
theorem RdE.nil (w:World):RdE w (.slice none 0 0) []:=⟨none,0,rfl,Nat.le_refl _,Nat.zero_le _,fun _=>rfl,(fun r h=>by simp at h),.inl rfl⟩
theorem RdE.below (h:RdE w v l) {B:Nat} (i:Below B w w') (t:w.heap.size<=B):RdE w' v l:=by
 obtain⟨ao,cap,n,f,g,q,m,a⟩:=h;refine⟨ao,cap,n,f,g,q,m,?_⟩;rcases a with a | ⟨b,d,p,k⟩
 ·exact .inl a
 ·refine .inr ⟨b,d,p,fun j e=>?_⟩
  have c:=k j e;exact c.keep (i.block b (by have:=c.lt;omega))
def Qg:List Ent->List Value
 | []=>[]
 | r::t=>(Gq r).toList++Qg t
theorem Xh:∀ l:List Ent,(Qg l).length=l.length*3
 | []=>rfl
 | r::t=>by
  rw[Qg,length_append,Xh t,length_cons];simp[Gq];omega
theorem Zaz:∀ a b:List Ent,Qg (a++b)=Qg a++Qg b
 | [],_=>rfl
 | r::t,b=>by rw[List.cons_append,Qg,Zaz t b,Qg,List.append_assoc]
theorem Zv:∀ (l:List Ent) (j k:Nat),j<l.length->k<3->(Qg l)[j*3+k]?=(Gq (l.getD j Xi))[k]?
 | r::t,0,k,_,hk=>by
  rw[Qg,Nat.zero_mul,Nat.zero_add,List.getElem?_append_left (by simp[Gq];omega)]
  simp[List.getD]
 | r::t,j+1,k,hj,hk=>by
  have e:(j+1)*3+k=(Gq r).toList.length+(j*3+k):=by simp[Gq];omega
  rw[Qg,e,List.getElem?_append_right (by omega),Nat.add_sub_cancel_left,Zv t j k (by simpa using hj) hk]
  simp[List.getD]
theorem Zac (l:List Ent):∀ u ∈ Qg l,u.oneCell'=true:=by
 induction l with
 | nil=>intro u a;simp[Qg] at a
 | cons r t b=>
  intro u a;rw[Qg] at a;rcases List.mem_append.1 a with h | h
  ·simp[Gq] at h
   rcases h with rfl | rfl | rfl <;> rfl
  ·exact b u h
def Xn (w:World) (B:Nat) (v:Value) (l:List Ent):Prop:=w.ownsRow B 85 3 v l.length (Qg l)
theorem Xn.nil (w:World) (B:Nat):Xn w B (.slice none 0 0) []:=World.ownsRow_nil w B 85 3
theorem Xn.rd (h:Xn w B v l) (c:∀ r ∈ l,Zlx r):RdE w v l:=by
 rcases h.2 with ⟨a,d⟩ | ⟨g,cap,cur,a,t,y,m,n,q,x⟩
 ·exact⟨none,0,by rw[a,d],by omega,Nat.zero_le _,fun _=>rfl,c,.inl (eq_nil_of_length_eq_zero d)⟩
 ·refine⟨some ⟨g,0,none⟩,cap,a,m,n,(fun e=>by cases e),c,.inr ⟨g,0,rfl,fun j f=>?_⟩⟩
  have b:∀ k u,k<3->(Gq (l.getD j Xi))[k]?=some u->w.cell? ⟨g,0+j*3+k,none⟩=some u:=fun k u p i=>by
   have:=World.ownsRow.cells h (g:=g) (by rw[a];rfl) (j*3+k) u ((Zv l j k f p).trans i)
   rw[Addr.add_lit] at this;rw[Nat.add_assoc];exact this
  exact⟨b 0 _ (by decide) rfl,b 1 _ (by decide) rfl,b 2 _ (by decide) rfl⟩
theorem Xn.below (h:Xn w B v l) (d:Below B' w w') (j:w.heap.size<=B'):Xn w' B v l:=by
 obtain⟨f,a⟩:=h;refine⟨f,?_⟩;rcases a with a | ⟨g,cap,cur,e,c,b,r⟩
 ·exact .inl a
 ·have i:g<w.heap.size:=(Array.getElem?_eq_some_iff.1 b).1
  exact .inr ⟨g,cap,cur,e,c,by rw[d.block g (by omega)];exact b,r⟩
theorem Xn.mono (h:Xn w B v l) (e:B'<=B):Xn w B' v l:=by
 obtain⟨c,a⟩:=h;refine⟨c,?_⟩;rcases a with a | ⟨g,cap,cur,b,d,r⟩
 ·exact .inl a
 ·exact .inr ⟨g,cap,cur,b,by omega,r⟩
theorem Xn.shape (h:Xn w B v l):∃ ao cap,v=.slice ao l.length cap:=by
 rcases h.2 with ⟨a,b⟩ | ⟨g,cap,cur,a,_⟩
 ·exact⟨none,0,by rw[a,b]⟩
 ·exact⟨_,_,a⟩
theorem RdE.shape (h:RdE w v l):∃ ao cap,v=.slice ao l.length cap:=by
 obtain⟨ao,cap,a,_⟩:=h;exact⟨ao,cap,a⟩
theorem ZgV:(prog.info? 85).map (fun i=>(i.zero,i.size,i.bytes))=some (some (.agg #[.int .i64 0,.int .i64 0,.int .i64 0]),3,24):=by kernel_rfl
theorem ZjH (w:World) (ty:TypeId) (B:Nat) (v:Value) (l:List Ent) (h:Xn w B v l) (r:Ent) (q:l.length<=1000000) (d:B<=w.heap.size):
 ∃ v' w',(Builtin.append_ #[39,39] ty #[v,.slice (some ⟨w.heap.size,0,none⟩) 1 1]).run prog (w.alloc (.cells (Gq r) 85))=.ok v' w'∧Xn w' B v' (l++[r])∧Below B w w':=by
 obtain⟨m,c,n,b,p⟩:=info_parts ZgV
 obtain⟨v',w',f,e,g,_⟩:=run_append_own (P:=prog) (w.alloc (.cells (Gq r) 85)) B 39 ty 85 m _ 3 24 underlying39 c n b p rfl (by decide) v l.length (Qg l) (h.alloc _)
  ⟨w.heap.size,0,none⟩ 1 1 (Qg [r]) (Xh [r]) (fun j u a=>by
   rw[Addr.add_lit,Nat.zero_add,cell_of_row _ w.heap.size j _ 85 (0,0) (heap_alloc_new w _)]
   simpa[Qg] using a) (Zac [r]) (by unfold maxLen;omega) (by omega) (by simp;omega)
 refine⟨v',w',f,?_,?_⟩
 ·unfold Xn
  rw[length_append,Zaz];exact e
 ·exact((Below.refl _ _).alloc d _).grown g (by simp;omega) (fun k i=>(World.ownsRow.lt h k i).1)
theorem ZfG (w:World) {b:Array Oper} {rest:List Oper} {o:Oper} {a:Act} {Q:Exit->Act->World->Prop} (k:o.guard=none) (s x:Operand)
 (i:o.op=.call { callee:=.builtin .append,args:=#[s,x],argTypes:=#[39,39] })
 (B:Nat) (v:Value) (l:List Ent) (m:a.eval s=v) (j:Xn w B v l) (r:Ent) (n:a.eval x=.slice (some ⟨w.heap.size,0,none⟩) 1 1)
 (g:l.length<=1000000) (f:B<=w.heap.size)
 (h:∀ v' w',Xn w' B v' (l++[r])->Below B w w'->wpList prog b Q rest (a.put o.dst v') w'):wpList prog b Q (o::rest) a (w.alloc (.cells (Gq r) 85)):=
 wpList_plain k fun _ c=>by
  obtain⟨v',w',p,d,e⟩:=ZjH w o.type B v l j r g f;unfold Oper.wp execOp;simp only [i,resolve,invoke,builtin,Sem.run_bind,Sem.run_pure,Result.andThen_ok,List.map_toArray,map_cons,map_nil,m,n,p];exact c _ _ (h v' w' d e)
def SnV (w:World) (v:Value) (s:Q0):Prop:=
 ∃ vl vt,v=.agg #[.int .i64 s.idx,.int .i64 s.st.kind,vl,.bool s.st.shut,.int .i64 s.st.eng,vt]∧RdI w vl s.st.L∧I64 s.st.kind∧I64 s.st.eng∧RdE w vt s.tab∧I64 s.idx
def G8 (p:Int):List Ent->Nat
 | []=>0
 | x::t=>if p<x.proc then 0 else G8 p t+1
theorem Zng (p:Int):∀ t,G8 p t<=t.length
 | []=>Nat.le_refl _
 | x::t=>by
  rw[G8];split
  ·exact Nat.zero_le _
  ·have:=Zng p t
   rw[length_cons];omega
def Zpd (p:Int) (t:List Ent):List Ent:=t.filter (fun x=>decide (x.proc≠p))
theorem Zxa (p:Int) (t:List Ent):(Zpd p t).length<=t.length:=List.length_filter_le _ _
theorem Znh (e:Ent):∀ t:List Ent,ZcF t e=(Zpd e.proc t).take (G8 e.proc (Zpd e.proc t))++(e::(Zpd e.proc t).drop (G8 e.proc (Zpd e.proc t)))
 | []=>rfl
 | x::t=>by
  have b:=Znh e t;unfold ZcF at b ⊢;unfold Zpd at b ⊢
  have d:(x::t).filter (fun y=>decide (y.proc≠e.proc))=if x.proc=e.proc then t.filter (fun y=>decide (y.proc≠e.proc)) else x::t.filter (fun y=>decide (y.proc≠e.proc)):=by
   rw[List.filter_cons];by_cases h:x.proc=e.proc <;> simp[h]
  rw[Zfy,d];by_cases c:x.proc=e.proc
  ·have a:¬ e.proc<x.proc:=by omega
   simp only [c,if_true];rw[if_neg (by simp),decide_eq_false (by omega),Bool.false_or,b]
   rfl
  ·simp only [if_neg c]
   by_cases a:e.proc<x.proc
   ·rw[if_pos (by simp[a]),decide_eq_true a,Bool.or_true,Zfz,G8,if_pos a]
    rfl
   ·rw[if_neg (fun h=>a h.2),decide_eq_false a,Bool.or_false,G8,if_neg a,b]
    rfl
theorem Zkn {p:Int}:∀ {t:List Ent},(∀ j,j<t.length->¬ p<(t.getD j Xi).proc)->G8 p t=t.length
 | [],_=>rfl
 | x::t,h=>by
  have a:=h 0 (by simp)
  rw[show(x::t).getD 0 Xi=x from rfl] at a;rw[G8,if_neg a,Zkn (fun j b=>h (j+1) (by simpa using b))]
  rfl
theorem Zni {p:Int}:∀ {t:List Ent} {i:Nat},i<t.length->(∀ j,j<i->¬ p<(t.getD j Xi).proc)->p<(t.getD i Xi).proc->G8 p t=i
 | [],i,hi,_,_=>absurd hi (Nat.not_lt_zero _)
 | x::t,0,_,_,h=>by
  rw[show(x::t).getD 0 Xi=x from rfl] at h;rw[G8,if_pos h]
 | x::t,i+1,hi,hb,h=>by
  have a:=hb 0 (by omega)
  rw[show(x::t).getD 0 Xi=x from rfl] at a;rw[G8,if_neg a,Zni (i:=i) (by simpa using hi) (fun j b=>hb (j+1) (by omega)) h]
theorem ZuE {b:List UInt8} {r:List Ent × List UInt8} (h:Jx n b=some r):n<=b.length:=by
 obtain⟨t,x⟩:=r;obtain⟨c,a⟩:=ZdL n b t x h;have:=ZmN t;rw[a,length_append];omega
theorem Znj {b:List UInt8} (c:(Qb b).2≠0):Zbe b=(Jx (Qb b).1 (b.drop (Qb b).2)).bind (fun r=>if r.2=[] then some r.1 else none):=by
 unfold Zbe;by_cases a:b.length<(Qb b).1
 ·rw[if_pos (.inr a)]
  cases h:Jx (Qb b).1 (b.drop (Qb b).2) with
  | none=>rfl
  | some r=>
   have:=ZuE h;rw[length_drop] at this;omega
 rw[if_neg (by omega)]
 cases Jx (Qb b).1 (b.drop (Qb b).2) with
 | none=>rfl
 | some p=>
  obtain⟨t,x⟩:=p
  cases x <;> rfl
theorem Zpe {l:List UInt8} {a:Nat} (h:a<l.length):Ya (l.drop a)=(l.drop a).take 64::Ya (l.drop (a+64)):=by
 rw[Zx (fun e=>by
  have:=congrArg List.length e;rw[length_drop,List.length_nil] at this
  omega),drop_drop]
theorem ZuF (P:List (List UInt8)):Zfx P↔P=Ya P.flatten:=
 ⟨fun h=>(ZcD P h).symm,fun h=>by rw[h];exact ZcE _ _ zL⟩
theorem ZuG (e:Ent):Qz ⟨0,e.proc,e.seq,⟨0,0,0⟩,e.resp⟩↔Zbm e:=by
 unfold Qz Zbm Ge;simp only;omega
def ZhZ (t:List Ent):Nat->Int
 | 0=>0
 | k+1=>(t.getD k Xi).proc+1
theorem Zpf {t:List Ent} {k:Nat}:Gf t (k+1)↔Gf t k∧Zbm (t.getD k Xi)∧ZhZ t k<=(t.getD k Xi).proc:=by
 rw[Gf.next];constructor
 ·rintro⟨h1,h2,h3⟩
  refine⟨h1,h2,?_⟩
  cases k with
  | zero=>exact h2.1
  | succ k=>
   have:=h3 (by omega)
   rw[Nat.add_sub_cancel] at this;rw[ZhZ];omega
 ·rintro⟨h1,h2,h3⟩
  refine⟨h1,h2,fun h=>?_⟩
  cases k with
  | zero=>omega
  | succ k=>
   rw[ZhZ] at h3;rw[Nat.add_sub_cancel];omega
theorem ZuH (i:Int) (t:List Ent):¬ Z6 ⟨i,ZcB,t⟩:=by
 rintro⟨-,h,-⟩
 revert h
 show ¬ Yl ZcB;decide
def Zs:Nat->List UInt8->Option (List Nat × List UInt8)
 | 0,b=>some ([],b)
 | n+1,b=>if(Qb b).2=0 then none else(Zs n (b.drop (Qb b).2)).map (fun r=>((Qb b).1::r.1,r.2))
theorem ZaO {P:Program} (w:World) (g q ty e:TypeId) (k:Nat) (b o d z:Nat) (a:Addr) (c p:Nat) (cs:List Value)
 (B:P.underlying g=some (.slice e)) (l:(P.info? e).map (·.size)=some k) (m:cs.length=Nat.min c d*k)
 (y:∀ j v,cs[j]?=some v->w.cell? (a.add j)=some v) (x:∀ j,j<cs.length->(w.cell? ⟨b,o+j,none⟩).isSome=true) (t:∀ j,j<cs.length->w.frozen? ⟨b,o+j,none⟩=false) (A:∀ v ∈ cs,v.oneCell'=true):
 (Builtin.copy_ #[g,q] ty #[.slice (some ⟨b,o,none⟩) d z,.slice (some a) c p]).run P w=.ok (goInt (Nat.min c d)) (w.setCells b o cs):=by
 have f:=run_loadCells_list (P:=P) w a cs y;have u:=run_storeCells_cells (P:=P) b o cs 0 w (by simpa using x) (by simpa using t) A
 cases hq:P.info? e with
 | none=>simp[hq] at l
 | some i=>
  have n:i.size=k:=by simpa[hq] using l
  rw[m] at f;simp[Builtin.copy_,run_underlying B,Builtin.lenOf,Builtin.firstCells,sizeOf,typeInfo,hq,n,f,u]
def Zbu:Nat->List Value
 | 0=>[]
 | n+1=>.int .i64 0::.int .i64 0::.int .i64 0::Zbu n
theorem Gk:∀ n,(Zbu n).length=n*3
 | 0=>rfl
 | n+1=>by rw[Zbu,length_cons,length_cons,length_cons,Gk n];omega
theorem ZfH:∀ n,∀ v ∈ Zbu n,v=.int .i64 0
 | 0,v,h=>by simp[Zbu] at h
 | n+1,v,h=>by
  rw[Zbu,mem_cons,mem_cons,mem_cons] at h;rcases h with h | h | h | h
  ·exact h
  ·exact h
  ·exact h
  ·exact ZfH n v h
theorem Zko (n:Nat):(Builtin.zeroCells (Value.agg #[.int .i64 0,.int .i64 0,.int .i64 0]).cells n).toList=Zbu n:=by
 have f:(Value.agg #[.int .i64 0,.int .i64 0,.int .i64 0]).cells=#[.int .i64 0,.int .i64 0,.int .i64 0]:=by rfl
 rw[f];apply List.ext_getElem?;intro i;by_cases h:i<n*3
 ·have a:i<(Zbu n).length:=by rw[Gk];exact h
  have d:(Zbu n)[i]?=some (.int .i64 0):=by
   rw[List.getElem?_eq_getElem a,ZfH n _ (List.getElem_mem a)]
  rw[d];have g:i % 3=0∨i % 3=1∨i % 3=2:=by omega
  simp only [Builtin.zeroCells,Array.getElem?_toList,Array.getElem?_map];have b:(Array.range (n*(#[Value.int .i64 0,.int .i64 0,.int .i64 0]:Array Value).size))[i]?=some i:=by simp[h]
  rw[b];have c:(#[Value.int .i64 0,.int .i64 0,.int .i64 0]:Array Value).size=3:=rfl;rw[c];rcases g with e | e | e <;> rw[Option.map_some,e] <;> rfl
 ·rw[List.getElem?_eq_none (by simp[Builtin.zeroCells];omega),List.getElem?_eq_none (by rw[Gk];omega)]
theorem Zia {P:Program} (w:World) (t e ty:TypeId) (d:P.underlying t=some (.slice e)) (g:∀ w,(zeroValue e).run P w=.ok (.agg #[.int .i64 0,.int .i64 0,.int .i64 0]) w) (b o n c:Nat) (l:0<n)
 (i:∀ j,j<n*3->(w.cell? ⟨b,o+j,none⟩).isSome=true) (f:∀ j,j<n*3->w.frozen? ⟨b,o+j,none⟩=false):
 (Builtin.clear_ #[t] ty #[.slice (some ⟨b,o,none⟩) n c]).run P w=.ok (.tuple #[]) (w.setCells b o (Zbu n)):=by
 have a:=run_storeCells_cells (P:=P) b o (Zbu n) 0 w (by rw[Gk];simpa using i) (by rw[Gk];simpa using f) (by intro v k;rw[ZfH n v k];rfl)
 simp only [Nat.add_zero] at a;obtain⟨m,rfl⟩:∃ m,n=m+1:=⟨n-1,by omega⟩
 simp[Builtin.clear_,run_underlying d,g,Zko,a]
def Zpg (r s:Ent):Bool:=r.proc == s.proc && r.seq == s.seq && r.resp == s.resp
theorem ZuI (w:World) (r s:Ent):(binOp .neq 85 (.agg #[.int .i64 r.proc,.int .i64 r.seq,.int .i64 r.resp]) (.agg #[.int .i64 s.proc,.int .i64 s.seq,.int .i64 s.resp])).run prog w=.ok (.bool (!Zpg r s)) w:=by
 have e:=underlying3;have c:=Tryz.isAgg3;have d:=Tryz.sizeOf3;have a:prog.underlying 85=some (.struct (prog.fieldsOf 85)):=by kernel_rfl
 have b:prog.stoodInHeld 85=false:=by kernel_rfl
 unfold Zpg;rw[run_neq_struct,show(10000:Nat)=9999+1 from rfl,run_equalIn_agg w 9999 85 _ _ a b];simp only [Program.fieldsOf,underlying85]
 go_simp
 repeat' split
 all_goals simp_all
theorem ZuJ:prog.eqGuardType prog.depth 85=false:=by kernel_rfl
theorem Znk (r s:Ent):Zpg r s=true↔r=s:=by
 obtain⟨i,p,q⟩:=r;obtain⟨a,c,b⟩:=s;simp[Zpg];constructor
 ·rintro⟨⟨rfl,rfl⟩,rfl⟩
  simp
 ·rintro⟨rfl,rfl,rfl⟩
  simp
theorem Zsk (r:Ent):Zpg r r=true:=(Znk r r).2 rfl
theorem ZuK {r s:Ent} (h:r≠s):Zpg r s=false:=by
 cases hq:Zpg r s
 ·rfl
 ·exact absurd ((Znk _ _).1 hq) h
open Go.RowKit Go.Shelf
def Zxb:Go.Shelf.Ren:=⟨fun | 111=>89 | n=>n,fun | 28=>23 | 3=>3 | 4=>4 | 0=>0 | n=>n,fun | n=>n⟩
theorem ZAo:Go.Proofs.Lays.n111 prog Zxb:={
 mixed:=by kernel_rfl
 f111:=func89.trans (congrArg some (by kernel_rfl))
 t0:=underlying0
 a0:=Tryz.isAgg0
 z0:=Tryz.sizeOf0
 v0:=Tryz.zeroValue0
 t3:=underlying3
 a3:=Tryz.isAgg3
 z3:=Tryz.sizeOf3
 v3:=Tryz.zeroValue3
 t4:=underlying4
 a4:=Tryz.isAgg4
 z4:=Tryz.sizeOf4
 v4:=Tryz.zeroValue4
 t28:=underlying23
 a28:=Tryz.isAgg23
 z28:=Tryz.sizeOf23
 v28:=Tryz.zeroValue23 }
def Zsl:Go.Shelf.Ren:=⟨fun | 15=>39 | n=>n,fun | 22=>23 | 3=>3 | 4=>4 | n=>n,fun | n=>n⟩
theorem ZuL:Go.Proofs.Lays2.n15 prog Zsl:={
 mixed:=by kernel_rfl
 f15:=func39.trans (congrArg some (by kernel_rfl))
 t3:=underlying3
 a3:=Tryz.isAgg3
 z3:=Tryz.sizeOf3
 v3:=Tryz.zeroValue3
 t4:=underlying4
 a4:=Tryz.isAgg4
 z4:=Tryz.sizeOf4
 v4:=Tryz.zeroValue4
 t22:=underlying23
 a22:=Tryz.isAgg23
 z22:=Tryz.sizeOf23
 v22:=Tryz.zeroValue23
 i3:=by kernel_rfl }
def Zsm:Go.Shelf.Ren:=⟨fun | 23=>210 | n=>n,fun | 22=>23 | 3=>3 | 4=>4 | 0=>0 | n=>n,fun | n=>n⟩
theorem ZzD:Go.Proofs.Lays2.n23 prog Zsm:={
 mixed:=by kernel_rfl
 f23:=func210.trans (congrArg some (by kernel_rfl))
 t0:=underlying0
 a0:=Tryz.isAgg0
 z0:=Tryz.sizeOf0
 v0:=Tryz.zeroValue0
 t3:=underlying3
 a3:=Tryz.isAgg3
 z3:=Tryz.sizeOf3
 v3:=Tryz.zeroValue3
 t4:=underlying4
 a4:=Tryz.isAgg4
 z4:=Tryz.sizeOf4
 v4:=Tryz.zeroValue4
 t22:=underlying23
 a22:=Tryz.isAgg23
 z22:=Tryz.sizeOf23
 v22:=Tryz.zeroValue23
 i3:=by kernel_rfl }
def Zkp:Go.Shelf.Ren:=⟨fun | 21=>212 | 27=>223 | 28=>224 | 35=>229 | 39=>232 | n=>n,fun | 22=>23 | 3=>3 | 4=>4 | 0=>0 | n=>n,fun | n=>n⟩
theorem Znl:Go.Proofs.Lays2.n21 prog Zkp:={
 mixed:=by kernel_rfl
 f21:=func212.trans (congrArg some (by kernel_rfl))
 f27:=func223.trans (congrArg some (by kernel_rfl))
 f28:=func224.trans (congrArg some (by kernel_rfl))
 f35:=func229.trans (congrArg some (by kernel_rfl))
 f39:=func232.trans (congrArg some (by kernel_rfl))
 t0:=underlying0
 a0:=Tryz.isAgg0
 z0:=Tryz.sizeOf0
 v0:=Tryz.zeroValue0
 t3:=underlying3
 a3:=Tryz.isAgg3
 z3:=Tryz.sizeOf3
 v3:=Tryz.zeroValue3
 t4:=underlying4
 a4:=Tryz.isAgg4
 z4:=Tryz.sizeOf4
 v4:=Tryz.zeroValue4
 t22:=underlying23
 a22:=Tryz.isAgg23
 z22:=Tryz.sizeOf23
 v22:=Tryz.zeroValue23
 i3:=by kernel_rfl }
def Zfm (cur:Array Value):Nat->List Value->Array Value
 | _,[]=>cur
 | o,v::r=>Zfm (cur.setIfInBounds o v) (o+1) r
theorem Xr:∀ (vs:List Value) (o:Nat) (cur:Array Value),(Zfm cur o vs).size=cur.size
 | [],_,_=>rfl
 | v::r,o,cur=>by rw[Zfm,Xr r];simp
theorem Yq:∀ (vs:List Value) (o:Nat) (cur:Array Value) (j:Nat),j<cur.size->(Zfm cur o vs)[j]?=if o<=j∧j<o+vs.length then vs[j-o]? else cur[j]?
 | [],o,cur,j,_=>by
  rw[Zfm,if_neg (by rw[List.length_nil];omega)]
 | v::r,o,cur,j,hj=>by
  rw[Zfm,Yq r (o+1) _ j (by simpa using hj)]
  by_cases h:j=o
  ·subst h
   rw[if_neg (by omega),if_pos (by simp)]
   simp[hj]
  ·by_cases a:o+1<=j∧j<o+1+r.length
   ·rw[if_pos a,if_pos (by simp;omega)]
    rw[show j-o=(j-(o+1))+1 by omega]
    simp
   ·rw[if_neg a,if_neg (by simp;omega)]
    simp[show ¬ o=j by omega]
theorem Xy (g:Nat) (t:TypeId):∀ (vs:List Value) (o:Nat) (w:World) (cur:Array Value),w.heap[g]?=some (.cells cur t (0,0))->(w.setCells g o vs).heap[g]?=some (.cells (Zfm cur o vs) t (0,0))
 | [],_,_,_,h=>h
 | v::r,o,w,cur,h=>by
  rw[World.setCells,Zfm];exact Xy g t r (o+1) _ _ (heap_setCell_same w g o cur t v h)
theorem Gy {B g:Nat} {a:World} (b:B<=g):∀ (vs:List Value) (o:Nat) (w:World),Below B a w->Below B a (w.setCells g o vs)
 | [],_,_,h=>h
 | v::r,o,w,h=>by
  rw[World.setCells];exact Gy b r (o+1) _ (h.setCell b v)
theorem Zib (h:Below B a w):Below B a w.drew:=⟨h.os,h.tape,h.output,h.size,h.block⟩
theorem Qs.ofRow {l:List Int} (f:B<=g) (i:w.heap[g]?=some (.cells cur 3 (0,0))) (d:l.length<=cap) (b:cap<=maxLen) (c:cur.size=cap) (e:∀ j,j<l.length->cur[j]?=some (.int .i64 (l.getD j 0))):
 Qs w B (.slice (some ⟨g,0,none⟩) l.length cap) l:=by
 refine⟨by rw[Zk,Nat.mul_one],.inr ⟨g,cap,cur,rfl,f,i,d,b,by rw[c,Nat.mul_one],?_⟩⟩
 apply List.ext_getElem?;intro j;rw[Nat.mul_one];by_cases a:j<l.length
 ·rw[List.getElem?_take_of_lt a,Zu l j a,Array.getElem?_toList]
  exact e j a
 ·rw[List.getElem?_eq_none (by simp;omega),List.getElem?_eq_none (by rw[Zk];omega)]
theorem Qs.ofRowN {l:List Int} (d:n=l.length) (f:B<=g) (i:w.heap[g]?=some (.cells cur 3 (0,0))) (b:l.length<=cap) (a:cap<=maxLen) (c:cur.size=cap) (e:∀ j,j<l.length->cur[j]?=some (.int .i64 (l.getD j 0))):
 Qs w B (.slice (some ⟨g,0,none⟩) n cap) l:=by
 subst d;exact Qs.ofRow f i b a c e
theorem Qs.row {l:List Int} (h:Qs w B v l):(v=.slice none 0 0∧l=[])∨∃ g cap cur,v=.slice (some ⟨g,0,none⟩) l.length cap∧B<=g∧g<w.heap.size∧w.heap[g]?=some (.cells cur 3 (0,0))∧l.length<=cap∧cap<=maxLen∧cur.size=cap∧∀ j,j<l.length->cur[j]?=some (.int .i64 (l.getD j 0)):=by
 rcases h.2 with ⟨a,b⟩ | ⟨g,cap,cur,a,b,d,f,i,m,k⟩
 ·exact .inl ⟨a,eq_nil_of_length_eq_zero b⟩
 ·refine .inr ⟨g,cap,cur,a,b,(Array.getElem?_eq_some_iff.1 d).1,d,f,i,by rw[m,Nat.mul_one],fun j c=>?_⟩
  have e:=Zu l j c;rw[<-k,Nat.mul_one,List.getElem?_take_of_lt c,Array.getElem?_toList] at e;exact e
theorem Zkq (w:World) (q:Nat):(w.drewN q).heap=w.heap:=by
 induction q generalizing w with
 | zero=>rfl
 | succ n a=>exact a _
structure Mv (w w':World) (v v':Value):Prop where
 grown:w.grownBy w' v.ownBlock
 lies:∀ b,v'.ownBlock=some b->v.ownBlock=some b∨w.heap.size<=b
theorem Mv.size (h:Mv w w' v v'):w.heap.size<=w'.heap.size:=h.grown.size
theorem Mv.ofBelow (h:Below w.heap.size w w') (v:Value):Mv w w' v v:=⟨⟨h.os,h.tape,h.output,h.size,fun k b _=>h.block k b⟩,fun _ a=>.inl a⟩
theorem Mv.refl (w:World) (v:Value):Mv w w v v:=Mv.ofBelow (Below.refl _ _) v
theorem Mv.alloc (w:World) (v:Value) (X:Obj):Mv w (w.alloc X) v v:=Mv.ofBelow ((Below.refl _ _).alloc zL X) v
theorem Mv.trans {f j:World} {g d:Value} (a:Mv w f v g) (c:Mv f j g d):Mv w j v d:=by
 have n:=a.size;refine⟨⟨c.grown.os.trans a.grown.os,c.grown.tape.trans a.grown.tape,c.grown.output.trans a.grown.output,Nat.le_trans n c.size,fun k m i=>?_⟩,fun b l=>?_⟩
 ·rw[c.grown.block k (by omega) (fun e=>?_)]
  ·exact a.grown.block k m i
  ·rcases a.lies k e.symm with h | h
   ·exact i h.symm
   ·omega
 ·rcases c.lies b l with h | h
  ·exact a.lies b h
  ·exact .inr (by omega)
theorem Mv.drew (h:Mv w w' v v'):Mv w w'.drew v v':=⟨⟨h.grown.os,h.grown.tape,h.grown.output,h.grown.size,h.grown.block⟩,h.lies⟩
theorem Mv.below (h:Mv w w' v v') {B:Nat} {l:List Int} (a:Qs w B v l) (c:B<=w.heap.size):Below B w w':=
 ⟨h.grown.os,h.grown.tape,h.grown.output,h.size,fun k b=>h.grown.block k (by omega) (fun e=>by have:=(World.ownsRow.lt a k e.symm).1;omega)⟩
theorem Mv.app (h:w.grownBy w' v.ownBlock) (d:w.heap.size=N) (a:v'.ownBlock=v.ownBlock∨∃ g,v'.ownBlock=some g∧N<=g):Mv w w' v v':=by
 refine⟨h,fun b c=>?_⟩
 rcases a with a | ⟨g,a,e⟩
 ·exact .inl (by rw[<-a];exact c)
 ·rw[a] at c
  injection c with c
  exact .inr (by omega)
theorem Zar (g:Nat):∀ (vs:List Value) (o:Nat) (w:World) (k:Nat),k≠g->(w.setCells g o vs).heap[k]?=w.heap[k]?
 | [],_,_,_,_=>rfl
 | v::r,o,w,k,h=>by
  rw[World.setCells,Zar g r (o+1) _ k h];exact Below.heap_setCell _ _ _ _ h
theorem Mv.cells {n' c':Nat} (h:Mv w w' v (.slice (some ⟨g,0,none⟩) n c)) (o:Nat) (vs:List Value):Mv w (w'.setCells g o vs) v (.slice (some ⟨g,0,none⟩) n' c'):=by
 have d:=Gy (B:=0) (g:=g) (a:=w') (Nat.zero_le _) vs o w' (Below.refl _ _);refine⟨⟨d.os.trans h.grown.os,d.tape.trans h.grown.tape,d.output.trans h.grown.output,Nat.le_trans h.size d.size,fun k i f=>?_⟩,fun b d=>h.lies b d⟩
 rw[Zar g vs o w' k (fun e=>?_)]
 ·exact h.grown.block k i f
 ·rcases h.lies g rfl with h' | h'
  ·exact f (by rw[e,h'])
  ·omega
theorem Mv.made {f:Value} (h:Mv w w' v f) (X:Obj) (n c:Nat):Mv w (w'.alloc X) v (.slice (some ⟨w'.heap.size,0,none⟩) n c):=by
 have a:=(Below.refl w'.heap.size w').alloc zL X;refine⟨⟨a.os.trans h.grown.os,a.tape.trans h.grown.tape,a.output.trans h.grown.output,Nat.le_trans h.size a.size,fun k d e=>?_⟩,fun b a=>.inr ?_⟩
 ·rw[a.block k (by have:=h.size;omega)]
  exact h.grown.block k d e
 ·have:=ZoJ a
  have:=h.size;omega
theorem Mv.drewN (h:Mv w w' v v') (q:Nat):Mv w (w'.drewN q) v v':=by
 have a:=Xo (Below.refl 0 w') q;exact⟨⟨a.os.trans h.grown.os,a.tape.trans h.grown.tape,a.output.trans h.grown.output,Nat.le_trans h.size a.size,fun k b c=>by rw[Zkq];exact h.grown.block k b c⟩,h.lies⟩
theorem Qs.put {l:List Int} (h:Qs w B v l) (j:Nat) (d:j<l.length) (n:Int):
 ∃ g cap,v=.slice (some ⟨g,0,none⟩) l.length cap∧w.cell? ⟨g,j,none⟩=some (.int .i64 (l.getD j 0))∧w.frozen? ⟨g,j,none⟩=false∧B<=g∧g<w.heap.size∧Qs (w.setCell ⟨g,j,none⟩ (.int .i64 n)) B v (l.set j n)∧Mv w (w.setCell ⟨g,j,none⟩ (.int .i64 n)) v v:=by
 rcases h.row with ⟨_,a⟩ | ⟨g,cap,cur,rfl,a,t,b,m,u,q,f⟩
 ·subst a;simp at d
 ·refine⟨g,cap,rfl,?_,frozen_of_row w g j _ _ b,a,t,?_,(Mv.refl w (.slice (some ⟨g,0,none⟩) l.length cap)).cells j [_]⟩
  ·rw[cell_of_row w g j _ _ _ b]
   exact f j d
  ·have e:l.length=(l.set j n).length:=by simp
   rw[e];refine Qs.ofRow a (heap_setCell_same w g j _ _ _ b) (by rw[<-e];exact m) u (by simpa using q) (fun i c=>?_)
   rw[<-e] at c;by_cases k:i=j
   ·subst k
    have:i<cur.size:=by omega
    simp[this,List.getD,c]
   ·have p:¬ j=i:=fun h=>k h.symm
    have:=f i c;simp[p,this,List.getD]
theorem ZfI (v:Value) (l:List Int) (w:World) (k:RdI w v l) (q:l.length<=1000000):
 Calls prog 39 #[v] w fun e w'=>∃ v',e=.returned v'∧Qs w' w.heap.size v' l∧Below w.heap.size w w':=by
 obtain⟨ao,cap,rfl,u,t,n,p,i⟩:=k
 cases ao with
 | none=>
  have j:=n rfl;have c:l=[]:=eq_nil_of_length_eq_zero (by omega)
  subst c;refine Calls.mono (Any.slices_Clone_int_nil ZuL _ cap w) ?_;rintro e w' ⟨rfl,rfl⟩;exact⟨_,rfl,Qs.nil _ _,Below.refl _ _⟩
 | some a=>
  by_cases c:l=[]
  ·subst c
   refine Calls.mono (Any.slices_Clone_int_zero ZuL a cap w) ?_;rintro e w' ⟨v',rfl,d,_,f⟩;exact⟨v',rfl,d,f⟩
  ·rcases i with i | ⟨b,m,g,j⟩
   ·exact absurd i c
   ·injection g with g
    subst g;refine Calls.mono (Any.slices_Clone_int ZuL b m l.length cap l w zL (by omega) j) ?_
    rintro e w' ⟨v',rfl,d,_,f⟩;refine⟨v',rfl,?_,f⟩;rw[take_length] at d;exact d
theorem Zsn (i:Value) (A:List Int) (f:Value) (B:List Int) (w:World) (l:RdI w i A) (m:RdI w f B):
 Calls prog 89 #[i,f] w fun e w'=>e=.returned (.bool (decide (A=B)))∧Below w.heap.size w w':=by
 obtain⟨ao,cap,rfl,I,x,D,E,d⟩:=l;obtain⟨j,a,rfl,G,p,H,L,c⟩:=m;by_cases g:A.length=B.length
 ·by_cases b:A.length=0
  ·have t:A=[]:=eq_nil_of_length_eq_zero b
   have y:B=[]:=eq_nil_of_length_eq_zero (by omega)
   subst t;subst y;refine Calls.mono (Any.slices_Equal_int_empty ZAo ao j cap 0 a w (by omega)) ?_
   rintro e w' ⟨rfl,rfl⟩;exact⟨rfl,Below.refl _ _⟩
  ·rcases d with d | ⟨z,C,rfl,n⟩
   ·rw[d] at b;simp at b
   rcases c with c | ⟨v,u,rfl,k⟩
   ·have J:B.length=0:=by rw[c];rfl
    omega
   have K:cap<=9223372036854775807:=by unfold maxLen at x;omega
   have F:a<=9223372036854775807:=by unfold maxLen at p;omega
   refine Calls.mono (Any.slices_Equal_int ZAo z C A.length cap v u B.length a A B w zL zL (by omega) (by omega) n k) ?_
   rintro e w' ⟨rfl,q,rfl⟩;refine⟨?_,Xo (Below.refl _ _) q⟩;rw[take_length,take_length];by_cases h:A=B
   ·rw[decide_eq_true h,beq_iff_eq.2 h]
   ·rw[decide_eq_false h,beq_eq_false_iff_ne.2 h]
 ·refine Calls.mono (Any.slices_Equal_int_lens ZAo ao j A.length cap B.length a w g) ?_
  rintro e w' ⟨rfl,rfl⟩;exact⟨by rw[decide_eq_false (fun h=>g (by rw[h]))],Below.refl _ _⟩
theorem Zic (v:Value) (l:List Int) (B:Nat) (w:World) (m:Qs w B v l) (i j:Nat) (C:i<j) (c:j<=l.length) (I J:Int) (x:I=i) (f:J=j):
 Calls prog 210 #[v,.int .i64 I,.int .i64 J] w fun e w'=>∃ v',e=.returned v'∧Qs w' B v' (l.take i++l.drop j)∧Mv w w' v v':=by
 subst x;subst f;rcases m.row with ⟨_,d⟩ | ⟨g,cap,cur,rfl,t,A,b,z,p,y,n⟩
 ·subst d;simp at c;omega
 ·unfold maxLen at p
  refine Calls.mono (Any.slices_Delete_int_cells ZzD g 0 l.length cap i j l w zL z (by omega) (by omega) c
   (fun k a=>by rw[Nat.zero_add,cell_of_row w g k _ _ _ b];exact n k a) (fun k a=>by rw[Nat.zero_add];exact frozen_of_row w g k _ _ b)) ?_
  rintro e w' ⟨rfl,q,rfl⟩;refine⟨_,rfl,?_,((Mv.refl w (.slice (some ⟨g,0,none⟩) l.length cap)).drewN q).cells _ _⟩;have u:(l.take i++l.drop j).length=l.length-(j-i):=by simp;omega
  rw[<-u];refine Qs.ofRow t (Xy g _ _ _ _ cur (by rw[Zkq];exact b)) (by omega) (by unfold maxLen;omega) (by rw[Xr];exact y) (fun k a=>?_)
  rw[Yq _ _ _ _ (by omega),take_length,if_pos (by simp at a ⊢;omega),Nat.sub_zero,List.map_append,List.getElem?_append_left (by simpa using a)]
  exact Zu _ k a
theorem get3 {α:Type} (A vs:List α) (i:Nat) (d:i<=A.length) (j:Nat):(A.take i++(vs++A.drop i))[j]?=if j<i then A[j]? else if j<i+vs.length then vs[j-i]? else A[j-vs.length]?:=by
 have c:(A.take i).length=i:=by simp;omega
 by_cases a:j<i
 ·rw[if_pos a,List.getElem?_append_left (by omega),List.getElem?_take_of_lt a]
 ·rw[if_neg a,List.getElem?_append_right (by omega),c]
  by_cases b:j<i+vs.length
  ·rw[if_pos b,List.getElem?_append_left (by omega)]
  ·rw[if_neg b,List.getElem?_append_right (by omega),List.getElem?_drop]
   congr 1
   omega
theorem ZcK (A B:List Int):Qr (A++B)=Qr A++Qr B:=by simp[Qr]
theorem Zly (A:List Int) (i:Nat):Qr (A.take i)=(Qr A).take i:=by simp[Qr]
theorem Zlz (A:List Int) (i:Nat):Qr (A.drop i)=(Qr A).drop i:=by simp[Qr]
theorem ZeE (l:List Int) (i:Nat) (b:i<=l.length) (x y:Int) (j:Nat) (a:j<(l.take i++([x,y]++l.drop i)).length):
 some (.int .i64 ((l.take i++([x,y]++l.drop i)).getD j 0))=if j<i then(Qr l)[j]? else if j<i+2 then[Value.int .i64 x,.int .i64 y][j-i]? else(Qr l)[j-2]?:=by
 rw[<-Zu _ j a,ZcK,ZcK,Zly,Zlz];exact get3 (Qr l) (Qr [x,y]) i (by rw[Zk];exact b) j
theorem Zph (v:Value) (l:List Int) (B:Nat) (w:World) (ho:Qs w B v l) (hB:B<=w.heap.size) (aj:l.length<=1000000) (i:Nat) (K:i<=l.length) (I:Int) (hI:I=i) (x y:Int) (N:Nat) (hN:N=w.heap.size):
 Calls prog 212 #[v,.int .i64 I,.slice (some ⟨N,0,none⟩) 2 2] (w.alloc (.cells #[.int .i64 x,.int .i64 y] 3)) fun e w'=>∃ v',e=.returned v'∧Qs w' B v' (l.take i++([x,y]++l.drop i))∧Mv w w' v v':=by
 subst hI;subst hN;have A:Mv w (w.alloc (.cells #[.int .i64 x,.int .i64 y] 3)) v v:=Mv.alloc w v _;have G:=heap_alloc_new w (.cells #[.int .i64 x,.int .i64 y] 3);have ai:(w.alloc (.cells #[.int .i64 x,.int .i64 y] 3)).heap.size=w.heap.size+1:=by simp
 have ad:∀ k,k<w.heap.size->(w.alloc (.cells #[.int .i64 x,.int .i64 y] 3)).heap[k]?=w.heap[k]?:=fun k hk=>Below.heap_alloc _ _ _ hk
 generalize w.alloc (.cells #[.int .i64 x,.int .i64 y] 3)=W at *;have m:(l.take i++([x,y]++l.drop i)).length=l.length+2:=by simp;omega
 have E:∀ j u,[Value.int .i64 x,.int .i64 y][j]?=some u->W.cell? ⟨w.heap.size,0+j,none⟩=some u:=fun j u d=>by
  rw[Nat.zero_add,cell_of_row W w.heap.size j _ _ _ G];simpa using d
 have p:∀ u ∈ [Value.int .i64 x,.int .i64 y],u.oneCell'=true:=fun u d=>by
  simp at d;rcases d with rfl | rfl <;> rfl
 have f:=Zk l;have Y:=Zmu l;have F:(Value.int .i64 0).cells.size=1:=rfl;have Q:Zkp.t 3=3:=rfl;rcases ho.row with ⟨rfl,rfl⟩ | ⟨g,cap,cur,rfl,aa,ae,hg,T,O,R,U⟩
 ·have ac:i=0:=by simpa using K
  subst ac;refine Calls.mono (Any2.slices_Insert_int_end_grow Znl none 0 0 w.heap.size 0 2 2 [] [.int .i64 x,.int .i64 y] W (by omega) (by omega) (by omega) (by omega) rfl rfl (fun _=>rfl) (fun a C=>by cases C) E p) ?_
  rintro e w' ⟨rfl,rfl⟩;rw[Q];have L:=grownCap_ge W (0+2) 0 3;have q:=grownCap_le_maxLen W (0+2) 0 3 (by unfold maxLen;omega)
  refine⟨_,rfl,?_,A.drew.made _ _ _⟩;have e2:0+2=([x,y]:List Int).length:=rfl;show Qs _ B (.slice (some ⟨W.heap.size,0,none⟩) (0+2) (grownCap W (0+2) 0 3)) [x,y];generalize grownCap W (0+2) 0 3=D at *
  exact Qs.ofRow (by omega) (heap_alloc_new W.drew _) L q (by simp[size_zeroCells,F];omega) (fun j b=>by
   have af:j=0∨j=1:=by simp at b;omega
   rcases af with rfl | rfl <;> (rw[Array.getElem?_append_left (by simp)];rfl))
 ·have n:W.heap[g]?=some (.cells cur 3 (0,0)):=(ad g ae).trans hg
  have J:∀ j u,(Qr l)[j]?=some u->W.cell? ⟨g,0+j,none⟩=some u:=fun j u d=>by
   have b:j<l.length:=by rw[<-f];exact(List.getElem?_eq_some_iff.1 d).1
   rw[Nat.zero_add,cell_of_row W g j _ _ _ n,U j b,<-Zu l j b,d]
  have V:∀ j,j<l.length->cur[j]?=(Qr l)[j]?:=fun j b=>by rw[U j b,Zu l j b]
  have X:cap<=9223372036854775807:=by unfold maxLen at O;omega
  by_cases Z:l.length+2<=cap
  ·have ab:∀ j,j<l.length+2->(W.cell? ⟨g,0+j,none⟩).isSome=true:=fun j b=>by
    rw[Nat.zero_add,cell_of_row W g j _ _ _ n,Array.getElem?_eq_getElem (by omega)]
    rfl
   have S:∀ j,j<l.length+2->W.frozen? ⟨g,0+j,none⟩=false:=fun j b=>frozen_of_row W g _ _ _ n
   by_cases P:i=l.length
   ·subst P
    refine Calls.mono (Any2.slices_Insert_int_end_room Znl g 0 l.length cap w.heap.size 0 2 2 [.int .i64 x,.int .i64 y] W (by omega) Z X rfl
     (fun j b=>by rw[Nat.add_assoc];exact ab _ (by omega)) (fun j b=>by rw[Nat.add_assoc];exact S _ (by omega)) E p) ?_
    rintro e w' ⟨rfl,rfl⟩;refine⟨_,rfl,?_,A.cells _ _⟩;rw[<-m];refine Qs.ofRow aa (Xy g _ _ _ _ cur n) (by omega) O (by rw[Xr];exact R) (fun j b=>?_)
    rw[Yq _ _ _ _ (by omega),ZeE l l.length zL x y j b,Nat.zero_add]
    rw[m] at b;by_cases c:j<l.length
    ·rw[if_neg (by omega),if_pos c,V j c]
    ·rw[if_pos (by simp;omega),if_neg c,if_pos (by omega)]
   ·refine Calls.mono (Any2.slices_Insert_int_shift Znl g 0 l.length cap i w.heap.size 0 2 2 (Qr l) [.int .i64 x,.int .i64 y] W (by omega) (by omega) Z X (by omega) f rfl J ab S E Y p
     3 3 2 cap (by simp[World.shape?,G]) (by simp[World.shape?,n,R]) (by omega) (frozen_of_row W _ _ _ _ G) (frozen_of_row W _ _ _ _ G)) ?_
    rintro e w' ⟨rfl,rfl⟩;refine⟨_,rfl,?_,(Mv.cells (n':=0) (c':=0) A.drew _ _).cells _ _⟩;rw[<-m];refine Qs.ofRow aa (Xy g _ _ _ _ _ (Xy g _ _ _ _ cur n)) (by omega) O (by rw[Xr,Xr];exact R) (fun j b=>?_)
    rw[Yq _ _ _ _ (by rw[Xr];omega),Yq _ _ _ _ (by omega),ZeE l i K x y j b,Nat.zero_add,Nat.zero_add]
    rw[m] at b;have M:((Qr l).drop i).length=l.length-i:=by simp[Qr]
    rw[M];by_cases c:j<i
    ·rw[if_neg (by omega),if_neg (by omega),if_pos c,V j (by omega)]
    ·by_cases z:j<i+2
     ·rw[if_pos (by simp;omega),if_neg c,if_pos z]
     ·rw[if_neg (by simp;omega),if_pos (by omega),if_neg c,if_neg z,List.getElem?_drop]
      congr 1
      omega
  ·by_cases P:i=l.length
   ·subst P
    refine Calls.mono (Any2.slices_Insert_int_end_grow Znl (some ⟨g,0,none⟩) l.length cap w.heap.size 0 2 2 (Qr l) [.int .i64 x,.int .i64 y] W (by omega) T (by omega) (by omega) f rfl (fun h=>by cases h)
     (fun a C j u d=>by injection C with C;subst C;rw[Addr.add_lit];exact J j u d) E p) ?_
    rintro e w' ⟨rfl,rfl⟩;rw[Q];have L:=grownCap_ge W (l.length+2) cap 3;have q:=grownCap_le_maxLen W (l.length+2) cap 3 (by unfold maxLen;omega)
    refine⟨_,rfl,?_,A.drew.made _ _ _⟩;show Qs _ B (.slice (some ⟨W.heap.size,0,none⟩) (l.length+2) (grownCap W (l.length+2) cap 3)) _;generalize grownCap W (l.length+2) cap 3=D at *;rw[<-m];refine Qs.ofRow (by omega) (heap_alloc_new W.drew _) (by omega) q (by simp[size_zeroCells,F,f];omega) (fun j b=>?_)
    rw[ZeE l l.length zL x y j b];rw[m] at b;rw[Array.getElem?_append_left (by simp[f];omega),List.getElem?_toArray]
    by_cases c:j<l.length
    ·rw[if_pos c,List.getElem?_append_left (by omega)]
    ·rw[if_neg c,if_pos (by omega),List.getElem?_append_right (by omega),f]
   ·refine Calls.mono (Any2.slices_Insert_int_grow Znl g 0 l.length cap i w.heap.size 0 2 2 (Qr l) [.int .i64 x,.int .i64 y] W (by omega) (by omega) T (by omega) (by omega) f rfl J E Y p) ?_
    rintro e w' ⟨rfl,rfl⟩;rw[Q];have L:=grownCap_ge W (l.length+2) cap 3;have q:=grownCap_le_maxLen W (l.length+2) cap 3 (by unfold maxLen;omega)
    refine⟨_,rfl,?_,((A.made _ 0 0).drew.cells (n':=0) (c':=0) _ _).drew.cells _ _⟩;show Qs _ B (.slice (some ⟨W.heap.size,0,none⟩) (l.length+2) (grownCap W (l.length+2) cap 3)) _;generalize grownCap W (l.length+2) cap 3=D at *;have H:((Qr l).take i).length=i:=by simp[f];omega
    have M:((Qr l).drop i).length=l.length-i:=by simp[Qr]
    refine Qs.ofRowN m.symm (cur:=Zfm (Zfm (((Qr l).take i).toArray++Builtin.zeroCells (Value.int .i64 0).cells (l.length+2-i)++Builtin.zeroCells (Value.int .i64 0).cells (D-(l.length+2))) i [.int .i64 x,.int .i64 y]) (i+2) ((Qr l).drop i)) (by omega) (Xy _ _ _ _ _ _ (Xy _ _ _ _ _ _ (heap_alloc_new W _))) (by omega) q ?_ (fun j b=>?_)
    ·rw[Xr,Xr]
     simp[size_zeroCells,F,H];omega
    ·rw[ZeE l i K x y j b]
     rw[m] at b
     have ag:(((Qr l).take i).toArray++Builtin.zeroCells (Value.int .i64 0).cells (l.length+2-i)++Builtin.zeroCells (Value.int .i64 0).cells (D-(l.length+2))).size=D:=by
      simp[size_zeroCells,F,H];omega
     rw[Yq _ _ _ _ (by rw[Xr];omega),Yq _ _ _ _ (by omega),M]
     by_cases c:j<i
     ·rw[if_neg (by omega),if_neg (by omega),if_pos c,Array.getElem?_append_left (by simp[size_zeroCells,F,H];omega),Array.getElem?_append_left (by simp[H];omega),List.getElem?_toArray,List.getElem?_take_of_lt c]
     ·by_cases z:j<i+2
      ·rw[if_neg (by omega),if_pos (by simp;omega),if_neg c,if_pos z]
      ·rw[if_pos (by omega),if_neg c,if_neg z,List.getElem?_drop]
       congr 1
       omega
theorem Xn.row (h:Xn w B v l):(v=.slice none 0 0∧l=[])∨
 ∃ g cap cur,v=.slice (some ⟨g,0,none⟩) l.length cap∧B<=g∧g<w.heap.size∧w.heap[g]?=some (.cells cur 85 (0,0))∧l.length<=cap∧cap<=maxLen∧cur.size=cap*3∧∀ j,j<l.length*3->cur[j]?=(Qg l)[j]?:=by
 rcases h.2 with ⟨a,n⟩ | ⟨g,cap,cur,a,f,b,k,m,d,i⟩
 ·have e:l=[]:=eq_nil_of_length_eq_zero n
  subst e;exact .inl ⟨a,rfl⟩
 ·refine .inr ⟨g,cap,cur,a,f,(Array.getElem?_eq_some_iff.1 b).1,b,k,m,d,fun j c=>?_⟩
  rw[<-i,List.getElem?_take_of_lt c,Array.getElem?_toList]
theorem Xn.ofRow (e:n=l.length) (i:B<=g) (k:w.heap[g]?=some (.cells cur 85 (0,0))) (f:l.length<=cap) (b:cap<=maxLen) (d:cur.size=cap*3) (c:∀ j,j<l.length*3->cur[j]?=(Qg l)[j]?):
 Xn w B (.slice (some ⟨g,0,none⟩) n cap) l:=by
 subst e;refine⟨by rw[Xh],.inr ⟨g,cap,cur,rfl,i,k,f,b,d,?_⟩⟩
 apply List.ext_getElem?;intro j;by_cases a:j<l.length*3
 ·rw[List.getElem?_take_of_lt a,Array.getElem?_toList]
  exact c j a
 ·rw[List.getElem?_eq_none (by simp;omega),List.getElem?_eq_none (by rw[Xh];omega)]
theorem Xn.empty (w:World) (B:Nat) (b:B<=w.heap.size):Xn (w.alloc (.cells #[] 85)) B (.slice (some ⟨w.heap.size,0,none⟩) 0 0) []:=
 Xn.ofRow (l:=[]) rfl b (heap_alloc_new w _) zL (Nat.zero_le _) rfl (fun j a=>absurd a (by simp))
theorem Zcf:∀ (l:List Ent) (i:Nat),Qg (l.take i)=(Qg l).take (i*3)
 | l,0=>by simp[Qg]
 | [],i+1=>by simp[Qg]
 | x::t,i+1=>by
  rw[List.take_succ_cons,show(i+1)*3=i*3+1+1+1 by omega]
  show Value.int .i64 x.proc::.int .i64 x.seq::.int .i64 x.resp::Qg (t.take i)=(Value.int .i64 x.proc::.int .i64 x.seq::.int .i64 x.resp::Qg t).take (i*3+1+1+1);rw[Zcf t i];rfl
theorem Zcg:∀ (l:List Ent) (i:Nat),Qg (l.drop i)=(Qg l).drop (i*3)
 | l,0=>by simp
 | [],i+1=>by simp[Qg]
 | x::t,i+1=>by
  rw[List.drop_succ_cons,show(i+1)*3=i*3+1+1+1 by omega]
  show Qg (t.drop i)=(Value.int .i64 x.proc::.int .i64 x.seq::.int .i64 x.resp::Qg t).drop (i*3+1+1+1);rw[Zcg t i];rfl
theorem Xn.cut (h:Xn w B (.slice (some ⟨g,0,none⟩) n cap) l) (i:Nat) (p:i<=l.length):Xn w B (.slice (some ⟨g,0,none⟩) i cap) (l.take i):=by
 rcases h.row with ⟨a,-⟩ | ⟨g',m,cur,a,e,t,c,q,d,f,k⟩
 ·cases a
 ·injection a with a h2 h3
  injection a with a
  injection a with a
  subst a h3
  exact Xn.ofRow (by rw[length_take];omega) e c (by rw[length_take];omega) d f (fun j b=>by
   rw[length_take] at b
   rw[k j (by omega),Zcf,List.getElem?_take_of_lt (by omega)])
theorem Xn.cells (h:Xn w B (.slice (some ⟨g,0,none⟩) n cap) l) (o:Nat) (p:l.length*3<=o) (vs:List Value):Xn (w.setCells g o vs) B (.slice (some ⟨g,0,none⟩) n cap) l:=by
 rcases h.row with ⟨a,-⟩ | ⟨g',m,cur,a,f,q,d,c,e,i,k⟩
 ·cases a
 ·injection a with a h2 h3
  injection a with a
  injection a with a
  subst a h3
  exact Xn.ofRow h2 f (Xy g _ vs o w cur d) c e (by rw[Xr];exact i) (fun j b=>by
   rw[Yq _ _ _ _ (by omega),if_neg (by omega)]
   exact k j b)
theorem Xn.put (h:Xn w B (.slice (some ⟨g,0,none⟩) n cap) l) (i:Nat) (f:i<l.length) (e:Ent):Xn (w.setCells g (i*3) (Qg [e])) B (.slice (some ⟨g,0,none⟩) n cap) (l.set i e):=by
 rcases h.row with ⟨a,-⟩ | ⟨g',z,cur,a,u,A,p,m,t,v,y⟩
 ·cases a
 ·injection a with a h2 h3
  injection a with a
  injection a with a
  subst a h3;have x:(Qg [e]).length=3:=Xh [e];refine Xn.ofRow (by rw[length_set];exact h2) u (Xy g _ _ _ w cur p) (by rw[length_set];exact m) t (by rw[Xr];exact v) (fun j d=>?_)
  rw[length_set] at d;obtain⟨q,k,b,rfl⟩:∃ q k,k<3∧j=q*3+k:=⟨j / 3,j % 3,Nat.mod_lt _ (by decide),by omega⟩
  rw[Yq _ _ _ _ (by omega),x,Zv (l.set i e) q k (by rw[length_set];omega) b]
  by_cases c:q=i
  ·subst c
   rw[if_pos (by omega),show q*3+k-q*3=0*3+k by omega,Zv [e] 0 k (by simp) b]
   congr 2
   simp[List.getD,f]
  ·rw[if_neg (by omega),y _ (by omega),Zv l q k (by omega) b]
   congr 2
   have:¬ i=q:=fun h=>c h.symm
   simp[List.getD,this]
theorem RdE.cells {a:Addr} (h:RdE w (.slice (some a) n cap) l):∀ j u,(Qg l)[j]?=some u->w.cell? (a.add j)=some u:=by
 obtain⟨ao,c,f,z,A,C,B,e⟩:=h
 injection f with f _ _
 subst f;intro j u d;have i:j<l.length*3:=by rw[<-Xh];exact(List.getElem?_eq_some_iff.1 d).1
 rcases e with e | ⟨b,y,g,v⟩
 ·rw[e] at i
  simp at i
 ·injection g with g
  subst g;obtain⟨q,k,m,rfl⟩:∃ q k,k<3∧j=q*3+k:=⟨j / 3,j % 3,Nat.mod_lt _ (by decide),by omega⟩
  rw[Zv l q k (by omega) m] at d
  obtain⟨t,x,p⟩:=v q (by omega)
  rw[Addr.add_lit,<-Nat.add_assoc]
  match k,m with
  | 0,_=>exact t.trans d
  | 1,_=>exact x.trans d
  | 2,_=>exact p.trans d
theorem Zid (w:World) (ty:TypeId) (B:Nat) (v:Value) (l:List Ent) (h:Xn w B v l) (f:Value) (m:List Ent) (c:RdE w f m) (A:l.length+m.length<=1000000) (e:B<=w.heap.size):
 ∃ v' w',(Builtin.append_ #[39,39] ty #[v,f]).run prog w=.ok v' w'∧Xn w' B v' (l++m)∧Below B w w':=by
 obtain⟨g,d,y,j,z⟩:=info_parts ZgV;have n:=c;obtain⟨ao,cap,rfl,F,C,i,E,D⟩:=c
 cases ao with
 | none=>
  have t:=i rfl;subst t;have p:m=[]:=eq_nil_of_length_eq_zero (by omega)
  subst p;have b:=run_append_owned_none (P:=prog) w B 39 ty 85 g 3 underlying39 d v l.length (Qg l) h;exact⟨v,w,b,by rw[append_nil];exact h,Below.refl _ _⟩
 | some a=>
  obtain⟨v',w',b,q,u,_⟩:=run_append_own (P:=prog) w B 39 ty 85 g _ 3 24 underlying39 d y j z rfl (by decide) v l.length (Qg l) h
   a m.length cap (Qg m) (Xh m) n.cells (Zac m) (by unfold maxLen;omega) (by omega) e
  refine⟨v',w',b,?_,?_⟩
  ·unfold Xn
   rw[length_append,Zaz];exact q
  ·exact(Below.refl _ _).grown u e (fun k x=>(World.ownsRow.lt h k x).1)
theorem Zal (w:World) {c:Array Oper} {rest:List Oper} {o:Oper} {a:Act} {Q:Exit->Act->World->Prop} (p:o.guard=none) (s x:Operand)
 (k:o.op=.call { callee:=.builtin .append,args:=#[s,x],argTypes:=#[39,39] })
 (B:Nat) (v:Value) (l:List Ent) (q:a.eval s=v) (n:Xn w B v l) (b:Value) (m:List Ent) (t:a.eval x=b) (d:RdE w b m)
 (j:l.length+m.length<=1000000) (i:B<=w.heap.size)
 (h:∀ v' w',Xn w' B v' (l++m)->Below B w w'->wpList prog c Q rest (a.put o.dst v') w'):wpList prog c Q (o::rest) a w:=
 wpList_plain p fun _ e=>by
  obtain⟨v',w',u,f,g⟩:=Zid w o.type B v l n b m d j i;unfold Oper.wp execOp;simp only [k,resolve,invoke,builtin,Sem.run_bind,Sem.run_pure,Result.andThen_ok,List.map_toArray,map_cons,map_nil,q,t,u];exact e _ _ (h v' w' f g)
theorem ZfJ (v:Value) (l:List Ent) (w:World) (c:RdE w v l) (t:l.length<=1000000):
 Calls prog 40 #[v] w fun e w'=>∃ v',e=.returned v'∧Xn w' w.heap.size v' l∧Below w.heap.size w w':=by
 have k:=ZZ c;obtain⟨ao,cap,rfl,p,-,b,-⟩:=c
 cases ao with
 | none=>
  obtain rfl:cap=0:=b rfl;obtain rfl:l=[]:=eq_nil_of_length_eq_zero (by omega)
  clear b p;have j:∀ w,(binOp .eql 39 (.slice none 0 0) (.slice none 0 0)).run prog w=.ok (.bool true) w:=fun w=>run_eql_slice_nil w _ _ none 0 0 underlying39
  go_enter func40,ntmps40
  go_wp2;go_ret;exact⟨_,rfl,Xn.nil _ _,Below.refl _ _⟩
 | some a=>
  clear b;have j:∀ w,(binOp .eql 39 (.slice (some a) l.length cap) (.slice none 0 0)).run prog w=.ok (.bool false) w:=fun w=>run_eql_slice_nil w _ _ (some a) _ _ underlying39
  have g:Hid (∀ X,Below w.heap.size w (w.alloc X)):=fun X=>(Below.refl _ _).alloc zL X
  have m:Hid (Xn (w.alloc (.cells #[] 85)) w.heap.size (.slice (some ⟨w.heap.size,0,none⟩) 0 0) []):=ZZ (Xn.empty w _ zL)
  go_enter func40,ntmps40
  go_wp2_with(at_builtin;refine Zal _ rfl _ _ rfl w.heap.size _ [] rfl m.o _ l rfl (k.o.below (g.o _) zL) (by simp;omega) (by simp) ?_)
  intro u q f d;have n:=ZZ f;have i:=ZZ ((g.o _).trans d);clear f d;go_wp2;go_ret;exact⟨_,rfl,n.o,i.o⟩
def Zyj (p:Ent->Bool) (l:List Ent) (k:Int):Prop:=(k=-1∧∀ j,j<l.length->p (l.getD j Xi)=false)∨∃ i:Nat,k=(i:Int)∧i<l.length∧(∀ j,j<i->p (l.getD j Xi)=false)∧p (l.getD i Xi)=true
theorem Zdt (g R:Nat) (p:Ent->Bool) (v:Value) (l:List Ent) (w:World) (z:RdE w v l)
 (T:∀ args W,(callFunc g args).run prog W=.ok (.enter g args) W)
 (L:∀ W e,Below w.heap.size w W->Calls prog g #[Zsj e,.pointer (some ⟨R,0,none⟩)] W fun x w'=>x=.returned (.bool (p e))∧Below W.heap.size W w'):
 Calls prog 87 #[v,.func (.func g) #[] #[.pointer (some ⟨R,0,none⟩)]] w fun x w'=>∃ k:Int,x=.returned (.int .i64 k)∧Zyj p l k∧Below w.heap.size w w':=by
 have N:=ZZ z;have K:=ZZ L;obtain⟨Y,vc,rfl,O,F,-,-,H⟩:=z;have J:=ZZ H;have aa:(l.length:Int)<=9223372036854775807:=by unfold maxLen at F;omega
 clear L O F H
 go_enter func87,ntmps87
 go_wp2
 go_loopw[8] (fun y wr=>∃ q:Nat,y=.int .i64 (q:Int)∧q<=l.length∧Hid (∀ j,j<q->p (l.getD j Xi)=false)∧Hid (Below w.heap.size w wr)) (fun y _=>l.length-(intOf y).toNat)
 case atStart=>exact⟨0,rfl,Nat.zero_le _,ZZ (fun j f=>absurd f (Nat.not_lt_zero _)),Below.refl _ _⟩
 case round=>
  obtain⟨q,rfl,hq,m,d⟩:=hrel;by_cases c:q<l.length
  case neg=>
   obtain rfl:q=l.length:=by omega
   go_wp2;go_ret;exact⟨-1,rfl,.inl ⟨rfl,m.out⟩,d.out⟩
  have X:(q:Int)<(l.length:Int):=by omega
  rcases J.o with M | ⟨b,S,rfl,t⟩
  ·rw[M] at c;simp at c
  obtain⟨E,I,D⟩:=(t q c).keep (d.out.block b (t q c).lt);have a:=ZZ (K.o wr (l.getD q Xi) d.out);have P:Hid (∀ j,j<q+1->j=q∨j<q):=ZZ (fun j f=>by omega)
  obtain⟨e,u⟩:∃ e,e=l.getD q Xi:=⟨_,rfl⟩;rw[<-u] at a E I D;have A:=ZZ u;obtain⟨i,n⟩:∃ i,i=p e:=⟨_,rfl⟩;rw[<-n] at a;have G:=ZZ n;clear u t K J N n;unfold Zsj at a;obtain⟨U,Q,Z⟩:=e;simp only at a E I D
  go_wp2_with fail
  refine a.o.mono ?_;rintro x V ⟨rfl,B⟩;have C:=ZZ (d.out.trans (B.mono d.out.size));clear B a
  cases i with
  | true=>
   go_wp2;go_ret;exact⟨(q:Int),rfl,.inr ⟨q,rfl,c,m.out,by rw[<-A.o];exact G.o.symm⟩,C.o⟩
  | false=>
   go_wp2;go_roundw
   case rel=>exact⟨q+1,by go_num,by omega,ZZ (fun j f=>by
    rcases P.o j f with h | h
    ·rw[h,<-A.o];exact G.o.symm
    ·exact m.out j h),C⟩
   case measure=>simp[intOf];omega
theorem ZdQ (p:Ent->Bool) (l:List Ent) (j:Nat) (a:j<l.length):(l.take (j+1)).filter (fun e=>!p e)=(l.take j).filter (fun e=>!p e)++if p (l.getD j Xi)=true then[] else[l.getD j Xi]:=by
 have b:l.take (j+1)=l.take j++[l.getD j Xi]:=by
  rw[List.take_add_one,List.getElem?_eq_getElem a];simp[List.getD,a]
 rw[b,List.filter_append]
 congr 1
 generalize l.getD j Xi=x
 cases h:p x <;> simp[h]
theorem Zie (p:Ent->Bool) (l:List Ent) (i:Nat) (c:i<=l.length) (h:∀ j,j<i->p (l.getD j Xi)=false):(l.take i).filter (fun e=>!p e)=l.take i:=by
 rw[List.filter_eq_self];intro e a;obtain⟨j,b,rfl⟩:=List.getElem_of_mem a;rw[length_take] at b;have:=h j (by omega)
 rw[List.getElem_take];simp only [List.getD,List.getElem?_eq_getElem (show j<l.length by omega),Option.getD_some] at this
 simp[this]
def ZgF (p:Ent->Bool) (l L:List Ent) (i j:Nat):Prop:=L.length=l.length∧L.take i=(l.take j).filter (fun e=>!p e)∧L.drop j=l.drop j∧i<j
theorem ZgF.start (b:i<l.length) (h:∀ j,j<i->p (l.getD j Xi)=false) (a:p (l.getD i Xi)=true):ZgF p l l i (i+1):=by
 refine⟨rfl,?_,rfl,Nat.lt_succ_self _⟩;rw[ZdQ p l i b,if_pos a,append_nil,Zie p l i (by omega) h]
theorem ZgF.at (h:ZgF p l L i j):L.getD j Xi=l.getD j Xi:=by
 obtain⟨e,f,b,d⟩:=h;have c:(L.drop j).getD 0 Xi=L.getD j Xi:=by simp[List.getD]
 have a:(l.drop j).getD 0 Xi=l.getD j Xi:=by simp[List.getD]
 rw[<-c,<-a,b]
theorem Znm (h:L.drop j=l.drop j):L.drop (j+1)=l.drop (j+1):=by
 rw[<-drop_drop,<-drop_drop,h]
theorem ZgF.skip (h:ZgF p l L i j) (a:j<l.length) (e:p (l.getD j Xi)=true):ZgF p l L i (j+1):=by
 obtain⟨b,c,d,f⟩:=h;refine⟨b,?_,Znm d,by omega⟩
 rw[ZdQ p l j a,if_pos e,append_nil,c]
theorem ZgF.keep (h:ZgF p l L i j) (a:j<l.length) (e:p (l.getD j Xi)=false):ZgF p l (L.set i (l.getD j Xi)) (i+1) (j+1):=by
 obtain⟨b,c,d,f⟩:=h;refine⟨by rw[length_set,b],?_,?_,by omega⟩
 ·rw[ZdQ p l j a,if_neg (by rw[e];simp),<-c,List.take_add_one,List.take_set_of_le zL]
  congr 1
  rw[List.getElem?_set_self (by omega)]
  rfl
 ·rw[List.drop_set_of_lt (by omega)]
  exact Znm d
theorem Xn.put3 (h:Xn w B (.slice (some ⟨g,0,none⟩) n cap) l) (i:Nat) (f:i<l.length) (p s r:Int) (c b a:Nat) (j:c=i*3) (d:b=i*3+1) (e:a=i*3+2):
 Xn (((w.setCell ⟨g,c,none⟩ (.int .i64 p)).setCell ⟨g,b,none⟩ (.int .i64 s)).setCell ⟨g,a,none⟩ (.int .i64 r)) B (.slice (some ⟨g,0,none⟩) n cap) (l.set i ⟨p,s,r⟩):=by
 subst j d e;exact h.put i f ⟨p,s,r⟩
theorem Xn.ent (h:Xn w B (.slice (some ⟨g,0,none⟩) n cap) l) (i:Nat) (d:i<l.length):Znf w g (i*3) (l.getD i Xi)∧(∀ k,w.frozen? ⟨g,k,none⟩=false)∧B<=g∧l.length<=cap∧cap<=maxLen∧n=l.length:=by
 rcases h.row with ⟨a,-⟩ | ⟨g',q,cur,a,m,t,c,e,f,u,p⟩
 ·cases a
 ·injection a with a h2 h3
  injection a with a
  injection a with a
  subst a h3
  have b:∀ k,k<3->w.cell? ⟨g,i*3+k,none⟩=(Gq (l.getD i Xi))[k]?:=fun k j=>by
   rw[cell_of_row w g (i*3+k) _ _ _ c,p _ (by omega),Zv l i k d j]
  exact⟨⟨b 0 (by decide),b 1 (by decide),b 2 (by decide)⟩,fun k=>frozen_of_row w g k _ _ c,m,e,f,h2⟩
theorem Zpi {C:Nat} {b:World} (h:Below C b w) (R:Nat) (a:C<=R) (i d c:Nat) (e g f:Value):Below C b (((w.setCell ⟨R,i,none⟩ e).setCell ⟨R,d,none⟩ g).setCell ⟨R,c,none⟩ f):=
 ((h.setCell a _).setCell a _).setCell a _
theorem ZlA (w:World):(zeroValue 85).run prog w=.ok (.agg #[.int .i64 0,.int .i64 0,.int .i64 0]) w:=Tryz.zeroValue85 w
theorem Zif (g R:Nat) (p:Ent->Bool) (v:Value) (l:List Ent) (B:Nat) (w:World) (C:Xn w B v l) (hI:∀ e ∈ l,Zlx e) (J:B<=w.heap.size) (aw:l.length<=1000000)
 (eg:∀ args W,(callFunc g args).run prog W=.ok (.enter g args) W)
 (V:∀ W e,Below B w W->Calls prog g #[Zsj e,.pointer (some ⟨R,0,none⟩)] W fun x w'=>x=.returned (.bool (p e))∧Below W.heap.size W w'):
 Calls prog 86 #[v,.func (.func g) #[] #[.pointer (some ⟨R,0,none⟩)]] w fun x w'=>∃ v',x=.returned v'∧Xn w' B v' (l.filter (fun e=>!p e))∧Below B w w':=by
 have HO:=ZZ C;have HP:=ZZ V;have ac:=ZZ (Zdt g R p v l w (C.rd hI) eg (fun W e h=>V W e (h.mono J)))
 obtain⟨va,b,hv⟩:=C.shape;subst hv;clear C V
 go_enter func86,ntmps86
 go_wp2_with fail
 refine ac.o.mono ?_;rintro x W0 ⟨k,rfl,a,O⟩;have U:=ZZ (O.mono J);have H:=ZZ (HO.o.below O zL);clear ac O HO;rcases a with ⟨rfl,a⟩ | ⟨P,rfl,N,a,ae⟩
 ·have HE:Hid (l.filter (fun e=>!p e)=l):=ZZ (by
   have:=Zie p l l.length zL a
   rwa [take_length] at this)
  clear a;go_wp2;go_ret;exact⟨_,rfl,by rw[HE.o];exact H.o,U.o⟩
 have ad:=ZZ (ZgF.start N a ae);clear a ae;rcases H.o.row with ⟨-,h2⟩ | ⟨n,cap,cur,S,ai,-,-,ao,ak,-,-⟩
 ·rw[h2] at N;simp at N
 injection S with S _ h3
 subst S h3;have al:(l.length:Int)<=1000000:=by omega
 clear cur ak;have ei:((P:Int) == -1)=false:=beq_eq_false_iff_ne.2 (by omega)
 go_wp2
 go_loopw[5,6] (fun v5 M wr=>∃ (i j:Nat) (L:List Ent),v5=.int .i64 (i:Int)∧M=.int .i64 (j:Int)∧i<j∧j<=l.length∧Hid (Xn wr B (.slice (some ⟨n,0,none⟩) l.length b) L)∧Hid (ZgF p l L i j)∧Hid (Below B w wr)) (fun _ M _=>l.length-(intOf M).toNat)
 case atStart=>exact⟨P,P+1,l,rfl,by go_num,by omega,by omega,H,ad,U⟩
 case round=>
  clear H ad U ei;obtain⟨i,j,L,rfl,rfl,am,ap,m,c,u⟩:=hrel;by_cases af:j<l.length
  case neg=>
   obtain rfl:j=l.length:=by omega
   have hL:L.length=l.length:=c.out.1;have HT:Hid (L.take i=l.filter (fun e=>!p e)):=ZZ (by rw[c.out.2.1,take_length])
   have hE:=(m.out.ent i (by omega)).2.1
   have HK:Hid (∀ ty,(Builtin.clear_ #[39] ty #[.slice (some ⟨n,i*3,none⟩) (l.length-i) (b-i)]).run prog wr=.ok (.tuple #[]) (wr.setCells n (i*3) (Zbu (l.length-i)))):=ZZ (fun ty=>
    Zia wr _ _ _ underlying39 ZlA n (i*3) (l.length-i) (b-i) (by omega) (fun k hk=>by
     obtain⟨q,r,hr,rfl⟩:∃ q r,r<3∧k=q*3+r:=⟨k / 3,k % 3,Nat.mod_lt _ (by decide),by omega⟩
     have:=(m.out.ent (i+q) (by omega)).1
     rw[show i*3+(q*3+r)=(i+q)*3+r by omega]
     match r,hr with
     | 0,_=>rw[show(i+q)*3+0=(i+q)*3 from rfl,this.1];rfl
     | 1,_=>rw[this.2.1];rfl
     | 2,_=>rw[this.2.2];rfl) (fun k _=>hE _))
   have ag:=ZZ ((m.out.cut i (by omega)).cells (i*3) (by rw[length_take];omega) (Zbu (l.length-i)))
   rw[HT.o] at ag;have aj:=ZZ (Gy ai (Zbu (l.length-i)) (i*3) wr u.out);have ax:¬ (b=i):=by omega
   have y:(i:Int)<=(l.length:Int):=by omega
   have ar:(i:Int)<=(b:Int):=by omega
   have av:i<=l.length:=by omega
   have an:i<=b:=by omega
   clear hE;have hK:=HK.o;go_wp2;go_ret;exact⟨_,rfl,ag.o,aj.o⟩
  have au:(j:Int)<(l.length:Int):=by omega
  have az:L.length=l.length:=c.out.1;obtain⟨⟨F,E,A⟩,-,-⟩:=m.out.ent j (by omega)
  rw[c.out.at] at F E A;have K:=ZZ (c.out.skip af);have D:=ZZ (c.out.keep af);obtain⟨e,he⟩:∃ e,e=l.getD j Xi:=⟨_,rfl⟩;rw[<-he] at F E A K D;obtain⟨I,aa⟩:∃ I,I=p e:=⟨_,rfl⟩;have z:=ZZ (fun W h=>HP.o W e h)
  rw[<-aa] at z K D;obtain⟨d,f,t⟩:=e;unfold Zsj at z;simp only at z F E A D;clear he aa c;have Q:Hid (∀ X,Below B w (wr.alloc X)):=ZZ (fun X=>u.out.alloc (Nat.le_trans J u.out.size) X)
  have HX:Hid (Be (wr.alloc (.cells #[.int .i64 d,.int .i64 f,.int .i64 t] 85)) wr.heap.size #[.int .i64 d,.int .i64 f,.int .i64 t]):=ZZ (heap_alloc_new wr _);have Z:Hid (∀ X,Xn (wr.alloc X) B (.slice (some ⟨n,0,none⟩) l.length b) L):=ZZ (fun X=>m.out.below ((Below.refl _ _).alloc zL X) zL)
  go_wp2_with fail
  refine(z.o _ (Q.o _)).mono ?_;rintro x W1 ⟨rfl,y⟩;have ab:=ZZ ((Q.o (.cells #[.int .i64 d,.int .i64 f,.int .i64 t] 85)).trans (y.mono (by have:=u.out.size;simp;omega)))
  have Y:=ZZ (HX.o.below y zL);have T:=ZZ ((Z.o (.cells #[.int .i64 d,.int .i64 f,.int .i64 t] 85)).below y zL);clear y z Q HX Z F E A m u
  cases I with
  | true=>
   go_wp2;go_roundw
   case rel=>exact⟨i,j+1,L,rfl,by go_num,by omega,by omega,T,ZZ (K.o (by simp)),ab⟩
   case measure=>simp[intOf];omega
  | false=>
   obtain⟨⟨d0,d1,d2⟩,G,aq,-⟩:=T.o.ent i (by omega)
   obtain⟨b0,f0⟩:=Y.o.cell 0;obtain⟨b1,f1⟩:=Y.o.cell 1;obtain⟨b2,f2⟩:=Y.o.cell 2;have z0:=G (i*3);have z1:=G (i*3+1);have z2:=G (i*3+2);have ay:(i:Int)<(l.length:Int):=by omega
   have aA:i<l.length:=by omega
   clear G;go_wp2;go_roundw
   case rel=>exact⟨i+1,j+1,L.set i ⟨d,f,t⟩,by go_num,by go_num,by omega,by omega,ZZ (T.o.put3 i (by omega) d f t _ _ _ (by omega) (by omega) (by omega)),ZZ (D.o (by simp)),ZZ (Zpi ab.o n ai _ _ _ _ _ _)⟩
   case measure=>simp[intOf];omega
theorem RdE.one (w:World) (e:Ent) (b:Zlx e):RdE (w.alloc (.cells (Gq e) 85)) (.slice (some ⟨w.heap.size,0,none⟩) 1 1) [e]:=by
 have h:=Xn.ofRow (w:=w.alloc (.cells (Gq e) 85)) (B:=w.heap.size) (g:=w.heap.size) (cap:=1) (l:=[e]) (n:=1) rfl zL (heap_alloc_new w _) zL (by unfold maxLen;decide) rfl (fun j a=>by
  rw[List.length_singleton] at a
  match j,a with
  | 0,_=>rfl
  | 1,_=>rfl
  | 2,_=>rfl)
 exact h.rd (fun x c=>by rw[List.mem_singleton.1 c];exact b)
theorem Zkr (l:List Ent) (i:Nat) (q:i<=l.length) (e:Ent) (f:Nat->Option Value) (c:∀ j,j<i*3->f j=(Qg l)[j]?) (d:∀ j,j<3->f (i*3+j)=(Qg [e])[j]?)
 (m:∀ j,j<(l.length-i)*3->f ((i+1)*3+j)=(Qg (l.drop i))[j]?) (j:Nat) (n:j<(l.length+1)*3):f j=(Qg (l.take i++(e::l.drop i)))[j]?:=by
 have k:l.take i++(e::l.drop i)=l.take i++([e]++l.drop i):=rfl;have b:(Qg (l.take i)).length=i*3:=by rw[Xh,length_take];congr 1;omega
 have g:(Qg [e]).length=3:=Xh [e];rw[k,Zaz,Zaz];by_cases a:j<i*3
 ·rw[List.getElem?_append_left (by omega),c j a,Zcf,List.getElem?_take_of_lt a]
 ·rw[List.getElem?_append_right (by omega),b]
  by_cases p:j<i*3+3
  ·rw[List.getElem?_append_left (by omega),<-d (j-i*3) (by omega)]
   congr 1
   omega
  ·rw[List.getElem?_append_right (by omega),g,<-m (j-i*3-3) (by omega)]
   congr 1
   omega
theorem ZaZ (l:List Ent) (i:Nat) (a:i<=l.length) (e:Ent):(l.take i++(e::l.drop i)).length=l.length+1:=by simp;omega
def Zzs (w:World) (B:Nat) (L:List Ent) (x:Ending) (w':World):Prop:=∃ v',x=.returned v'∧Xn w' B v' L∧Below B w w'
theorem Zpj (v:Value) (l:List Ent) (B:Nat) (w:World) (c:Xn w B v l) (A:B<=w.heap.size) (G:l.length<=100000) (e:Ent) (z:Zlx e) (I:Int) (D:I=(l.length:Nat)) (N:Nat) (t:N=w.heap.size):
 Calls prog 88 #[v,.int .i64 I,.slice (some ⟨N,0,none⟩) 1 1] (w.alloc (.cells (Gq e) 85)) fun x w'=>Zzs w B (l.take l.length++(e::l.drop l.length)) x w':=by
 subst D t;have d:Hid (l.take l.length++(e::l.drop l.length)=l++[e]):=ZZ (by rw[take_length,List.drop_length])
 rw[d.o];have m:=ZZ (RdE.one w e z);have p:Hid (∀ X,Below B w (w.alloc X)):=fun X=>(Below.refl _ _).alloc A X
 have n:=ZZ (c.below ((Below.refl w.heap.size w).alloc zL (.cells (Gq e) 85)) zL);have j:B<=(w.alloc (.cells (Gq e) 85)).heap.size:=by simp;omega
 rcases c.row with ⟨rfl,rfl⟩ | ⟨g,cap,cur,rfl,L,J,y,M,k,E,u⟩
 ·clear c d
  go_enter func88,ntmps88
  go_wp2_with(at_builtin;refine Zal _ rfl _ _ rfl B _ [] rfl n.o _ [e] rfl m.o (by simp) j ?_)
  intro C q b a;have i:=ZZ b;have f:=ZZ ((p.o _).trans a);clear b a;go_wp2;go_ret;exact⟨_,rfl,i.o,f.o⟩
 ·have H:(cap:Int)<=9223372036854775807:=by unfold maxLen at k;omega
  have F:(l.length:Int)<=(cap:Int):=by omega
  clear c d u y E k;by_cases K:cap=l.length
  all_goals
   go_enter func88,ntmps88
   go_wp2_with(at_builtin;refine Zal _ rfl _ _ rfl B _ l rfl n.o _ [e] rfl m.o (by simp;omega) j ?_)
   intro C q b a;have i:=ZZ b;have f:=ZZ ((p.o _).trans a);clear b a;go_wp2;go_ret;exact⟨_,rfl,i.o,f.o⟩
theorem ZzE (w:World) (g N a b:Nat) (n:N≠g) (j f d i o:Nat) (l:w.shape? N=some (85,a)) (p:w.shape? g=some (85,b)) (m:b≠0) (c:∀ k,w.frozen? ⟨N,k,none⟩=false):
 (callFunc 129 #[.slice (some ⟨N,0,none⟩) j f,.slice (some ⟨g,o,none⟩) d i]).run prog w=.ok (.value (.bool false)) w:=by
 rw[run_callFunc_extern func129 (by kernel_rfl) (by kernel_rfl) (by kernel_rfl) (e:=Extern.SlicesOverlaps.overlaps #[39,39] #[4]) (by kernel_rfl),
  Lib.run_overlaps_apart w 39 4 85 underlying39 3 Tryz.sizeOf85 ⟨N,0,none⟩ ⟨g,o,none⟩ j f d i n _ _ a b l p m (c 0) (c a)]
 rfl
theorem ZgW:(prog.info? 85).map (·.size)=some 3:=by
 obtain⟨e,b,c,a,d⟩:=info_parts ZgV;rw[b];simp[a]
theorem Znn (g cap:Nat) (l:List Ent) (B:Nat) (w:World) (M:Xn w B (.slice (some ⟨g,0,none⟩) l.length cap) l) (hB:B<=w.heap.size) (i:Nat) (hi:i<l.length) (ac:l.length+1<=cap) (e:Ent) (I:Int) (hI:I=(i:Nat)) (N:Nat) (K:N=w.heap.size):
 Calls prog 88 #[.slice (some ⟨g,0,none⟩) l.length cap,.int .i64 I,.slice (some ⟨N,0,none⟩) 1 1] (w.alloc (.cells (Gq e) 85)) fun x w'=>Zzs w B (l.take i++(e::l.drop i)) x w':=by
 subst hI;rcases M.row with ⟨d,-⟩ | ⟨g',af,cur,d,G,aa,R,hn,z,C,t⟩
 ·cases d
 injection d with d _ h3
 injection d with d
 injection d with d
 subst d h3;clear M;have p:(w.alloc (.cells (Gq e) 85)).heap[N]?=some (.cells (Gq e) 85 (0,0)):=by rw[K];exact heap_alloc_new w _
 have f:(w.alloc (.cells (Gq e) 85)).heap[g]?=some (.cells cur 85 (0,0)):=(Below.heap_alloc _ _ _ aa).trans R;have S:Hid (Below B w (w.alloc (.cells (Gq e) 85))):=(Below.refl _ _).alloc hB _;generalize w.alloc (.cells (Gq e) 85)=W at *;have J:N≠g:=by omega
 have ar:(cap:Int)<=9223372036854775807:=by unfold maxLen at z;omega
 have U:∀ (j:Nat),W.frozen? ⟨g,j,none⟩=false:=fun j=>frozen_of_row W g j _ _ f
 have Z:∀ u y E A o,(callFunc 129 #[.slice (some ⟨N,0,none⟩) u y,.slice (some ⟨g,o,none⟩) E A]).run prog W=.ok (.value (.bool false)) W:=fun u y E A o=>
  ZzE W g N 3 (cap*3) J u y E A o (by simp[World.shape?,p,Gq]) (by simp[World.shape?,f,C]) (by omega) (fun k=>frozen_of_row W N k _ _ p)
 have D:(Qg (l.drop i)).length=(l.length-i)*3:=by rw[Xh,length_drop]
 have P:∀ j,j<(l.length+1)*3->(W.cell? ⟨g,j,none⟩).isSome=true:=fun j a=>by
  rw[cell_of_row W g j _ _ _ f,Array.getElem?_eq_getElem (by omega)]
  rfl
 have L:∀ W',(∀ x,W'.cell? x=W.cell? x)->(∀ x,W'.frozen? x=W.frozen? x)->∀ ty c sc,(Builtin.copy_ #[39,39] ty #[.slice (some ⟨g,(i+1)*3,none⟩) (l.length-i) c,.slice (some ⟨g,i*3,none⟩) (l.length+1-i) sc]).run prog W'=.ok (goInt (Nat.min (l.length+1-i) (l.length-i))) (W'.setCells g ((i+1)*3) (Qg (l.drop i))):=fun W' m F ty c sc=>
  ZaO W' _ _ ty 85 3 g ((i+1)*3) (l.length-i) c ⟨g,i*3,none⟩ (l.length+1-i) sc (Qg (l.drop i)) underlying39 ZgW (by rw[D];simp only [Nat.min_def];split <;> omega)
   (fun j v a=>by
    have Y:j<(l.length-i)*3:=by rw[<-D];exact(List.getElem?_eq_some_iff.1 a).1
    rw[Addr.add_lit,m,cell_of_row W g _ _ _ _ f,t _ (by omega)]
    rw[Zcg,List.getElem?_drop] at a
    exact a)
   (fun j a=>by rw[m];exact P _ (by omega)) (fun j a=>by rw[F];exact U _) (Zac _)
 obtain⟨b,n⟩:∃ b,b=W.drew.setCells g ((i+1)*3) (Qg (l.drop i)):=⟨_,rfl⟩;have q:b.heap[g]?=some (.cells (Zfm cur ((i+1)*3) (Qg (l.drop i))) 85 (0,0)):=by rw[n];exact Xy g _ _ _ W.drew cur f
 have Q:b.heap[N]?=some (.cells (Gq e) 85 (0,0)):=by rw[n,Zar g _ _ _ N J];exact p
 have H:(Qg [e]).length=3:=Xh [e]
 have V:∀ W',(∀ x,W'.cell? x=b.cell? x)->(∀ x,W'.frozen? x=b.frozen? x)->∀ ty c,(Builtin.copy_ #[39,39] ty #[.slice (some ⟨g,i*3,none⟩) (l.length+1-i) c,.slice (some ⟨N,0,none⟩) 1 1]).run prog W'=.ok (goInt (Nat.min 1 (l.length+1-i))) (W'.setCells g (i*3) (Qg [e])):=fun W' m F ty c=>
  ZaO W' _ _ ty 85 3 g (i*3) (l.length+1-i) c ⟨N,0,none⟩ 1 1 (Qg [e]) underlying39 ZgW (by rw[H];simp only [Nat.min_def];split <;> omega)
   (fun j v a=>by
    rw[Addr.add_lit,m,Nat.zero_add,cell_of_row b N _ _ _ _ Q]
    have:(Qg [e])[j]?=(Gq e)[j]?:=by
     have Y:j<3:=by rw[<-H];exact(List.getElem?_eq_some_iff.1 a).1
     have:=Zv [e] 0 j (by simp) Y
     rwa [Nat.zero_mul,Nat.zero_add] at this
    rw[<-this]
    exact a)
   (fun j a=>by
    rw[m,cell_of_row b g _ _ _ _ q,Array.getElem?_eq_getElem (by rw[Xr];omega)]
    rfl) (fun j a=>by rw[F];exact frozen_of_row b g _ _ _ q) (Zac _)
 have T:Hid (Zzs w B (l.take i++(e::l.drop i)) (.returned (.slice (some ⟨g,0,none⟩) (l.length+1) cap)) (b.setCells g (i*3) (Qg [e]))):=ZZ (by
  refine⟨_,rfl,Xn.ofRow (ZaZ l i (by omega) e).symm G (Xy g _ _ _ b _ q) (by rw[ZaZ l i (by omega) e];exact ac) z (by rw[Xr,Xr];exact C) (fun j a=>?_),?_⟩
  ·rw[ZaZ l i (by omega) e] at a
   refine Zkr l i (by omega) e (fun j=>(Zfm (Zfm cur ((i+1)*3) (Qg (l.drop i))) (i*3) (Qg [e]))[j]?) (fun k X=>?_) (fun k X=>?_) (fun k X=>?_) j a
   ·show(Zfm (Zfm cur ((i+1)*3) (Qg (l.drop i))) (i*3) (Qg [e]))[k]?=_
    rw[Yq _ _ _ _ (by rw[Xr];omega),if_neg (by omega),Yq _ _ _ _ (by omega),if_neg (by omega)]
    exact t k (by omega)
   ·show(Zfm (Zfm cur ((i+1)*3) (Qg (l.drop i))) (i*3) (Qg [e]))[i*3+k]?=_
    rw[Yq _ _ _ _ (by rw[Xr];omega),if_pos (by omega),Nat.add_sub_cancel_left]
   ·show(Zfm (Zfm cur ((i+1)*3) (Qg (l.drop i))) (i*3) (Qg [e]))[(i+1)*3+k]?=_
    rw[Yq _ _ _ _ (by rw[Xr];omega),if_neg (by omega),Yq _ _ _ _ (by omega),if_pos (by omega),Nat.add_sub_cancel_left]
  ·rw[n]
   exact Gy G _ _ _ (Gy G _ _ _ (Zib S.o)))
 have ad:=fun ty c sc=>L W.drew (fun _=>rfl) (fun _=>rfl) ty c sc
 have O:=fun ty c=>V b (fun _=>rfl) (fun _=>rfl) ty c
 clear L V;rw[n] at T O;clear n q Q t C R f p P U z S D H K;have ay:prog.follows .mixedOrders=true:=by kernel_rfl
 have ab:¬ ((i:Int)=(l.length:Int)):=by omega
 have ap:((i:Int) == (l.length:Int))=false:=beq_eq_false_iff_ne.2 ab;have ae:IntKind.i64.wrap ((i:Int)+1)=(i:Int)+1:=by rw[IntKind.wrap_i64];omega
 have ao:IntKind.i64.wrap ((l.length:Int)+1)=(l.length:Int)+1:=by rw[IntKind.wrap_i64];omega
 have ax:(0:Int)<=(i:Int)+1:=by omega
 have ak:i<=l.length:=by omega
 have aw:(i:Int)<=(l.length:Int):=by omega
 have aj:((i:Int)+1).toNat=i+1:=by omega
 have au:((l.length:Int)+1).toNat=l.length+1:=by omega
 have aq:¬ (cap=i+1):=by omega
 have av:(i:Int)<=(l.length:Int)+1:=by omega
 have an:¬ (cap=i):=by omega
 have ai:¬ ((cap:Int)<(l.length:Int)+1):=by omega
 have al:(l.length:Int)+1<=(cap:Int):=by omega
 have am:(i:Int)+1<=(l.length:Int)+1:=by omega
 generalize Qg (l.drop i)=ag at *;generalize Qg [e]=az at *;generalize l.take i++(e::l.drop i)=LL at *
 go_enter func88,ntmps88
 go_wp2_with(simp only [Z])
 go_region_law_o (refine step_copy_runI rfl _ _ 39 39 rfl _ _ (by simp[Act.eval,Act.put]) (by simp[Act.eval,Act.put]) (ad _ _ _) ?_)
 go_wp2_with(at_builtin;refine wpList_copy_runI _ rfl _ _ 39 39 rfl _ _ rfl rfl (O _ _) ?_)
 go_wp2;go_ret;exact T.o
end Go.Proofs.YtnahjngbneicaaaGreatDoor
