import Derived.Test.YtnahjngbneicaaaGreatDoorPack4
import Derived.Test.YtnahjngbneicaaaGreatDoorPack2
import Derived.Shelf.Slices.Empties2
import Derived.Shelf.Slices.Clone
import Derived.Shelf.Slices.Cells
import Derived.Shelf.Spec.SlicesInsertGrow
import Derived.Deep.DeepAppendWide
namespace Go.Proofs.YtnahjngbneicaaaGreatDoor
open _root_.Go.Proofs.Tryz
open List (append_nil drop_drop eq_nil_of_length_eq_zero length_append length_cons length_drop length_set length_take map_cons map_nil mem_cons take_length)
set_option maxHeartbeats 4000000
set_option maxRecDepth 100000
open Go.RowKit
variable {L l:List Ent} {B B' N T b c cap g i j n o:Nat} {a w w':World} {f v v':Value} {p:Ent->Bool} {d:Dk} {cs cur:Array Value} {e:Ent}
def Cnt (l:List UInt8) (c:Nat):Prop:=
 (c=0∧∀ j,j<10->j<l.length->128<=(l.getD j 0).toNat)∨
 (1<=c∧c<=10∧c<=l.length∧(∀ j,j+1<c->128<=(l.getD j 0).toNat)∧(l.getD (c-1) 0).toNat<128)
theorem Zuz (v:Value) (l:List UInt8) (w:World) (q:Rd w v l):
 Calls prog 222 #[v] w fun e w'=>∃ c:Nat,e=.returned (.int .i64 (c:Int))∧Cnt l c∧w'=w:=by
 obtain⟨ao,cap,rfl,z,t,u,d⟩:=q;clear u;have E:(l.length:Int)<=9223372036854775807:=by unfold maxLen at t;omega
 by_cases G:(l.length:Int)<=10
 all_goals
  go_enter func222,ntmps222
  go_wp2
  go_loop [7] (fun i=>∃ k:Nat,i=.int .i64 k∧k<=10∧k<=l.length∧Hid (∀ j,j<k->128<=(l.getD j 0).toNat)) (fun i=>10-(intOf i).toNat)
  case atStart=>exact⟨0,rfl,by omega,by omega,fun j n=>by omega⟩
  case round=>
   obtain⟨k,rfl,F,D,f⟩:=hrel;by_cases h:k<10∧k<l.length
   ·obtain⟨h,g⟩:=h
    rcases d with d | ⟨b,C,rfl,p⟩
    ·subst d;simp at g
    ·have x:=p k g
     clear p;obtain⟨y,a⟩:∃ y,y=(l.getD k 0).toNat:=⟨_,rfl⟩;rw[<-a] at x;have m:Hid (y=(l.getD k 0).toNat):=a;clear a;by_cases A:(y:Int)<128
     ·go_wp2
      go_ret;refine⟨k+1,ZbV (by omega),.inr ⟨by omega,by omega,by omega,fun j n=>f.out j (by omega),?_⟩,rfl⟩
      rw[Nat.add_sub_cancel,<-m.o];omega
     ·go_wp2
      go_round
      case rel=>
       refine⟨k+1,by go_num,by omega,by omega,fun j n=>?_⟩
       by_cases e:j=k
       ·rw[e,<-m.o];omega
       ·exact f.out j (by omega)
      case measure=>simp[intOf];omega
   ·go_wp2
    go_ret;exact⟨0,rfl,.inl ⟨rfl,fun j H B=>f.out j (by omega)⟩,rfl⟩
theorem Zse {l:List UInt8} (h:Cnt l 0):Qe l=(0,0):=by
 rcases h with ⟨_,h⟩ | h
 ·unfold Qe
  rw[Zld 10 l h]
 ·omega
theorem Zlu {l:List UInt8} (h:Cnt l (c+1)):c<10∧c<l.length∧(l.getD c 0).toNat<128∧
 dec 10 l=if 0<c∧(l.getD c 0).toNat=0 then none else some (val (l.take (c+1)),c+1):=by
 rcases h with h | ⟨i,e,f,b,d⟩
 ·omega
 ·have a:(l.getD c 0).toNat<128:=by simpa using d
  exact⟨by omega,by omega,a,ZtW c 10 l (by omega) (by omega) (fun j g=>b j (by omega)) a⟩
theorem ZdP (l:List UInt8) (k:Nat) (h:k<=l.length):val (l.take k)<128 ^ k:=by
 have:=Zye (l.take k)
 rwa [length_take,Nat.min_eq_left h] at this
theorem ZuA {l:List UInt8} (h:Cnt l 10) (j:(l.getD 9 0).toNat≠1):Qe l=(0,0):=by
 obtain⟨k,d,f,g⟩:=Zlu h;unfold Qe;rw[g];by_cases a:(l.getD 9 0).toNat=0
 ·rw[if_pos ⟨by omega,a⟩]
 ·rw[if_neg (fun e=>a e.2)]
  have b:=Zej l 9 d;have i:(l.getD 9 0).toNat % 128=(l.getD 9 0).toNat:=Nat.mod_eq_of_lt f;rw[i] at b;have c:128 ^ 9=9223372036854775808:=by decide
  rw[c] at b;have:¬ val (l.take (9+1))<18446744073709551616:=by omega
  simp only [this,if_false]
theorem Zpc {l:List UInt8} (h:Cnt l (c+1)) (d:0<c) (a:(l.getD c 0).toNat=0):Qe l=(0,0):=by
 obtain⟨g,e,f,b⟩:=Zlu h;unfold Qe;rw[b,if_pos ⟨d,a⟩]
theorem Zsf {l:List UInt8} (h:Cnt l (c+1)) (i:c=9->(l.getD c 0).toNat=1) (k:0<c->(l.getD c 0).toNat≠0):
 Qe l=(val (l.take (c+1)),c+1)∧val (l.take (c+1))<18446744073709551616:=by
 obtain⟨p,f,m,g⟩:=Zlu h
 have b:val (l.take (c+1))<18446744073709551616:=by
  by_cases e:c=9
  ·subst e
   have a:=Zej l 9 f;have j:=ZdP l 9 (by omega)
   rw[i rfl] at a;have d:128 ^ 9=9223372036854775808:=by decide
   rw[d] at a j;omega
  ·have a:=ZdP l (c+1) (by omega)
   have n:128 ^ (c+1)<=128 ^ 9:=Nat.pow_le_pow_right (by decide) (by omega)
   have d:128 ^ 9=9223372036854775808:=by decide
   omega
 refine⟨?_,b⟩;unfold Qe;rw[g,if_neg (fun e=>k e.1 e.2)]
 simp only [b,if_true]
theorem Zyi (k y x:Nat) (c:k<64) (d:y<2 ^ k) (b:x*2 ^ k<18446744073709551616):
 bits .or .u64 (y:Int) (IntKind.u64.wrap ((x:Int)*2 ^ k))=((y+x*2 ^ k:Nat):Int):=by
 have e:((x:Int)*2 ^ k)=((x*2 ^ k:Nat):Int):=by simp
 have a:((2 ^ k:Nat):Int)=(2:Int) ^ k:=by simp
 have f:(2:Nat) ^ k<=2 ^ 64:=Nat.pow_le_pow_right (by decide) (by omega)
 rw[e,wraps_u64 _ (by omega) (by omega),bits_join_low .u64 64 (by decide) wraps_u64 k (y:Int) ((x*2 ^ k:Nat):Int) (by omega) (by rw[<-a];omega) (by omega) (by omega) (by rw[<-a];simp) (by omega)]
 omega
theorem ZyJ (l:List UInt8) (k:Nat) (c:k<l.length) (j:k<10) (f:k=9->(l.getD k 0).toNat % 128<=1):
 bits .or .u64 ((val (l.take k):Nat):Int) (IntKind.u64.wrap (((l.getD k 0).toNat:Int) % 128*2 ^ (7*k)))=((val (l.take (k+1)):Nat):Int):=by
 have b:=ZdP l k (by omega)
 rw[Zej l k c,<-pow7];rw[<-pow7] at b;have e:(((l.getD k 0).toNat:Int) % 128)=(((l.getD k 0).toNat % 128:Nat):Int):=by omega
 rw[e];refine Zyi (7*k) _ _ (by omega) b ?_
 by_cases a:k=9
 ·have:=f a
  subst a;have d:2 ^ (7*9)=9223372036854775808:=by decide
  rw[d];omega
 ·have g:2 ^ (7*k)<=2 ^ 56:=Nat.pow_le_pow_right (by decide) (by omega)
  have h:(l.getD k 0).toNat % 128<=127:=by omega
  have:=Nat.mul_le_mul h g;have i:127*2 ^ 56<18446744073709551616:=by decide
  omega
theorem Zkl (v:Value) (l:List UInt8) (w:World) (B:Rd w v l):
 Calls prog 207 #[v] w fun e w'=>e=.returned (.tuple #[.int .u64 ((Qe l).1:Nat),.int .i64 ((Qe l).2:Nat)])∧w'=w:=by
 have C:=Zuz v l w B;obtain⟨ao,cap,rfl,Y,Z,L,p⟩:=B;clear L;have G:=ZZ C;clear C
 go_enter func207,ntmps207
 go_wp2_with fail
 refine G.o.mono ?_;rintro e w' ⟨c,rfl,a,rfl⟩;have a:Hid (Cnt l c):=a;clear G
 cases c with
 | zero=>
  have H:Hid (Qe l=(0,0)):=Zse a.out;go_wp2;go_ret2;exact⟨by rw[H.out];rfl,rfl⟩
 | succ c=>
  obtain⟨ac,F,U,Q⟩:=Zlu a.out;clear Q;rcases p with p | ⟨b,ab,rfl,q⟩
  ·subst p;simp at F
  have E:=q c F;obtain⟨y,n⟩:∃ y,y=(l.getD c 0).toNat:=⟨_,rfl⟩;rw[<-n] at E U;have d:Hid (y=(l.getD c 0).toNat):=n;have J:=ZZ q;clear n q;by_cases g:(c=9∧y≠1)∨(0<c∧y=0)
  ·have H:Hid (Qe l=(0,0)):=by
    rcases g with ⟨j,S⟩ | ⟨M,R⟩
    ·subst j
     exact ZuA a.out (by rw[<-d.o];exact S)
    ·exact Zpc a.out M (by rw[<-d.o];exact R)
   by_cases j:c=9
   ·have m:(((c:Int)+1) == 10)=true:=beq_iff_eq.2 (by omega)
    have P:((y:Int) != 1)=true:=by rw[bne_iff_ne];omega
    clear g j;go_wp2;go_ret2;exact⟨by rw[H.out];rfl,rfl⟩
   ·have m:(((c:Int)+1) == 10)=false:=beq_eq_false_iff_ne.2 (by omega)
    have A:(1:Int)<(c:Int)+1:=by omega
    have D:((y:Int) == 0)=true:=beq_iff_eq.2 (by omega)
    clear g j;go_wp2;go_ret2;exact⟨by rw[H.out];rfl,rfl⟩
  ·have H:Hid (Qe l=(val (l.take (c+1)),c+1)∧val (l.take (c+1))<18446744073709551616):=Zsf a.out (fun h=>by rw[<-d.o];omega) (fun h=>by rw[<-d.o];omega)
   have hw3:(c=9∧y=1)∨c=0∨(0<c∧c<9∧y≠0):=by omega
   have T:Hid (c=9->y=1):=fun h=>by omega
   clear g;rcases hw3 with hw3 | hw3 | hw3
   all_goals
    first
     | (have m:(((c:Int)+1) == 10)=true:=beq_iff_eq.2 (by omega)
        have P:((y:Int) != 1)=false:=by rw[bne_eq_false_iff_eq];omega
        have A:(1:Int)<(c:Int)+1:=by omega
        have D:((y:Int) == 0)=false:=beq_eq_false_iff_ne.2 (by omega))
     | (have m:(((c:Int)+1) == 10)=false:=beq_eq_false_iff_ne.2 (by omega)
        have A:¬ (1:Int)<(c:Int)+1:=by omega)
     | (have m:(((c:Int)+1) == 10)=false:=beq_eq_false_iff_ne.2 (by omega)
        have A:(1:Int)<(c:Int)+1:=by omega
        have D:((y:Int) == 0)=false:=beq_eq_false_iff_ne.2 (by omega))
    clear hw3;have ez:(((c:Int)+1) == 0)=false:=beq_eq_false_iff_ne.2 (by omega)
    go_wp2
    go_loop [5,35] (fun u i=>∃ k:Nat,k<=c+1∧i=.int .i64 k∧u=.int .u64 (val (l.take k):Nat)) (fun _ i=>c+1-(intOf i).toNat)
    case atStart=>exact⟨0,Nat.zero_le _,rfl,rfl⟩
    case round=>
     obtain⟨k,W,rfl,rfl⟩:=hrel;by_cases aa:k<c+1
     ·have K:=J.o k (by omega)
      obtain⟨x,f⟩:∃ x,x=(l.getD k 0).toNat:=⟨_,rfl⟩;rw[<-f] at K;have X:x<256:=by rw[f];exact UInt8.toNat_lt _
      have V:=ZZ f;clear f;obtain⟨z,t⟩:∃ z,z=val (l.take k):=⟨_,rfl⟩;rw[<-t];have N:=ZZ t;clear t E;go_wp2
      go_round
      case rel=>
       refine⟨k+1,by omega,by go_num,?_⟩
       rw[N.o,V.o,ZyJ l k (by omega) (by omega) (fun h=>?_)]
       have O:c=k:=by omega
       rw[<-O,<-d.o,T.o (by omega)]
       decide
      case measure=>simp[intOf];omega
     ·go_wp2
      go_ret2;have I:k=c+1:=by omega
      rw[H.out.1,I];exact⟨rfl,rfl⟩
theorem ZcJ (v:Value) (l:List UInt8) (w:World) (g:Rd w v l):
 Calls prog 168 #[v] w fun e w'=>e=.returned (.tuple #[.int .i64 ((Qb l).1:Nat),.int .i64 ((Qb l).2:Nat)])∧w'=w:=by
 have a:=ZZ (Zkl v l w g);have H:Hid (Qb l=if(Qe l).1<4611686018427387904 then Qe l else(0,0)):=rfl
 generalize Qe l=d at *;obtain⟨u,k⟩:=d;obtain⟨U,b⟩:∃ U:Int,U=(u:Int):=⟨_,rfl⟩;simp only at a H;rw[<-b] at a;have i:0<=U:=by omega
 have c:=ZZ b;clear b;by_cases h:U<4611686018427387904
 ·go_enter func168,ntmps168
  go_wp2_with fail
  refine a.o.mono ?_;rintro e w' ⟨rfl,rfl⟩;go_wp2;go_ret2;have e:=H.out;have f:=c.o;rw[if_pos (by omega)] at e
  rw[e];exact⟨by rw[f];rfl,rfl⟩
 ·go_enter func168,ntmps168
  go_wp2_with fail
  refine a.o.mono ?_;rintro e w' ⟨rfl,rfl⟩;go_wp2;go_ret2;have e:=H.out;have f:=c.o;rw[if_neg (by omega)] at e
  rw[e];exact⟨rfl,rfl⟩
theorem Zak (v:Value) (l:List UInt8) (w:World) (f:Rd w v l):
 Calls prog 201 #[v] w fun e w'=>e=.returned (.tuple #[.int .i64 (zag (Qe l).1),.int .i64 ((Qe l).2:Nat)])∧w'=w:=by
 have b:=ZZ (Zkl v l w f);have a:=Zle l;have c:=G0 l;generalize Qe l=d at *;obtain⟨u,k⟩:=d;simp only at b a c
 go_enter func201,ntmps201
 go_wp2_with fail
 refine b.o.mono ?_;rintro e w' ⟨rfl,rfl⟩
 go_wp2_with fail
 refine(Zyt u _ a).mono ?_;rintro e g ⟨rfl,rfl⟩;go_wp2;go_ret2;exact⟨rfl,rfl⟩
theorem Zgl:∀ (k v:Nat),Lib.leBytes (k+1) v=Lib.leBytes k v++[(v / 256 ^ k % 256).toUInt8]
 | 0,v=>by simp[Lib.leBytes]
 | k+1,v=>by
  have a:=Zgl k (v / 256);have e:v / 256 / 256 ^ k=v / 256 ^ (k+1):=by rw[Nat.div_div_eq_div_mul,Nat.pow_succ,Nat.mul_comm]
  rw[Lib.leBytes,a,e];simp[Lib.leBytes]
def ZhW (c k v:Nat):List UInt8:=Lib.leBytes k v++List.replicate (c-k) 0
theorem Znd (c k v:Nat) (h:k<=c):(ZhW c k v).length=c:=by
 simp[ZhW,Lib.leBytes_length];omega
theorem ZuB (c k v:Nat) (h:k<c):(Lib.byteCells (ZhW c k v)).set k (.int .u8 ((v / 256 ^ k % 256:Nat):Int))=Lib.byteCells (ZhW c (k+1) v):=by
 have e:c-k=(c-(k+1))+1:=by omega
 unfold ZhW;rw[Zgl,e,List.replicate_succ];have a:(Lib.byteCells (Lib.leBytes k v)).length=k:=by rw[Y0,Lib.leBytes_length]
 have b:((v / 256 ^ k % 256).toUInt8).toNat=v / 256 ^ k % 256:=Lib.toUInt8_toNat (Nat.mod_lt _ (by decide))
 simp only [Lib.byteCells,List.map_append,map_cons,map_nil,b] at a ⊢;rw[List.set_append_right _ _ (by omega),a]
 simp
theorem ZAm (k:Nat):2 ^ (8*k)=256 ^ k:=by rw[Nat.pow_mul]
theorem ZuC (v k:Nat):((v:Int) / 2 ^ (8*k)) % 256=((v / 256 ^ k % 256:Nat):Int):=by
 rw[<-ZAm];simp
theorem Zsg (v c:Nat) (w:World) (D:c<=8):
 Calls prog 186 #[.int .u64 (v:Int),.int .i64 (c:Int)] w fun e w'=>∃ v',e=.returned v'∧Own w' w.heap.size v' (Lib.leBytes c v)∧Below w.heap.size w w':=by
 obtain⟨q,t,y,x,u⟩:=info_parts Zlf
 go_enter func186,ntmps186
 go_wp2_with(at_make;refine wpList_make_full _ rfl _ _ 53 rfl w.heap.size 5 q (.int .u8 0) 1 underlying53 t y x _ _ _ _ c rfl rfl rfl rfl (by rw[u];omega) (by unfold maxLen;omega) zL ?_)
 intro m g p;have h:Below w.heap.size w m:=(Below.refl _ _).grown p zL (fun k b=>by cases b)
 have d:m.ownsRow w.heap.size 5 1 (.slice (some ⟨w.heap.size,0,none⟩) c c) c (Lib.byteCells (ZhW c 0 v)):=by
  have e:(madeCells #[Value.int .u8 0] c).toList=Lib.byteCells (ZhW c 0 v):=by
   rw[toList_madeCells_one];simp[ZhW,Lib.leBytes,Lib.byteCells]
  rw[<-e];exact g
 have z:=ZZ d;have A:=ZZ h;clear g d h p;go_wp2
 go_loopw[11] (fun i wr=>∃ k:Nat,k<=c∧i=.int .i64 (k:Int)∧Hid (wr.ownsRow w.heap.size 5 1 (.slice (some ⟨w.heap.size,0,none⟩) c c) c (Lib.byteCells (ZhW c k v)))∧Hid (Below w.heap.size w wr)) (fun i _=>c-(intOf i).toNat)
 case atStart=>exact⟨0,Nat.zero_le _,rfl,z,A⟩
 case round=>
  obtain⟨k,b,rfl,a,n⟩:=hrel;by_cases j:k<c
  ·have B:wr.cell? ⟨w.heap.size,k,none⟩=some (.int .u8 ((ZhW c k v).getD k 0).toNat):=by
    rw[World.ownsRow.cellAt a.out k (by omega),ZbU _ _ (by rw[Znd c k v b];exact j)]
   have C:wr.frozen? ⟨w.heap.size,k,none⟩=false:=World.ownsRow.frozenAt a.out k;go_wp2;go_roundw
   case rel=>
    have f:=World.ownsRow.stored a.out k (Value.int .u8 ((v / 256 ^ k % 256:Nat):Int));rw[ZuB c k v j] at f;rw[ZuC];exact⟨k+1,by omega,by go_num,f.1,n.out.setCell zL _⟩
   case measure=>simp[intOf];omega
  ·go_wp2
   go_ret;have e:k=c:=by omega
   refine⟨_,rfl,Own.mk' (l:=Lib.leBytes c v) a.out (by rw[Lib.leBytes_length]) ?_,n.out⟩
   rw[e];simp[ZhW]
theorem ZhX (v:Nat) (w:World) (h:v<4294967296):
 Calls prog 135 #[.int .u32 (v:Int)] w fun e w'=>∃ v',e=.returned v'∧Own w' w.heap.size v' (Lib.leBytes 4 v)∧Below w.heap.size w w':=by
 have a:Hid (Calls prog 186 #[.int .u64 (v:Int),.int .i64 4] w fun e w'=>∃ v',e=.returned v'∧Own w' w.heap.size v' (Lib.leBytes 4 v)∧Below w.heap.size w w'):=Zsg v 4 w (by omega)
 obtain⟨U,b⟩:∃ U:Int,U=(v:Int):=⟨_,rfl⟩;have j:0<=U:=by omega
 have i:U<4294967296:=by omega
 rw[<-b] at a ⊢;clear b h
 go_enter func135,ntmps135
 go_wp2_with fail
 refine a.o.mono ?_;rintro e w' ⟨v',rfl,c,d⟩;have f:=ZZ c;have g:=ZZ d;clear c d a;go_wp2;go_ret;exact⟨v',rfl,f.o,g.o⟩
theorem Zlv:∀ l:List UInt8,Lib.leNat l<256 ^ l.length
 | []=>by simp[Lib.leNat]
 | c::r=>by
  have h:=Zlv r;have a:=c.toNat_lt;simp only [Lib.leNat,length_cons,Nat.pow_succ];omega
theorem Zkm:∀ (l:List UInt8) (c:UInt8),Lib.leNat (l++[c])=Lib.leNat l+c.toNat*256 ^ l.length
 | [],c=>by simp[Lib.leNat]
 | d::r,c=>by
  have h:=Zkm r c;simp only [List.cons_append,Lib.leNat,length_cons,Nat.pow_succ,h];rw[Nat.mul_add,<-Nat.mul_assoc,Nat.mul_comm 256 c.toNat,Nat.mul_assoc,Nat.mul_comm 256 (256 ^ r.length)];omega
theorem Zsh (l:List UInt8) (k:Nat) (h:k<l.length):Lib.leNat (l.take (k+1))=Lib.leNat (l.take k)+(l.getD k 0).toNat*256 ^ k:=by
 rw[Zhk l k h,Zkm,length_take,Nat.min_eq_left (by omega)]
theorem Zlw (l:List UInt8) (k:Nat) (h:k<=l.length):Lib.leNat (l.take k)<256 ^ k:=by
 have:=Zlv (l.take k)
 rwa [length_take,Nat.min_eq_left h] at this
theorem ZwZ (l:List UInt8) (k:Nat) (b:k<l.length) (f:k<8):
 bits .or .u64 ((Lib.leNat (l.take k):Nat):Int) (IntKind.u64.wrap (((l.getD k 0).toNat:Int)*2 ^ (8*k)))=((Lib.leNat (l.take (k+1)):Nat):Int):=by
 have a:=Zlw l k (by omega)
 rw[Zsh l k b,<-ZAm];rw[<-ZAm] at a;refine Zyi (8*k) _ _ (by omega) a ?_
 have c:2 ^ (8*k)<=2 ^ 56:=Nat.pow_le_pow_right (by decide) (by omega)
 have g:=(l.getD k 0).toNat_lt;have d:(l.getD k 0).toNat<=255:=by omega
 have:=Nat.mul_le_mul d c;have e:255*2 ^ 56<18446744073709551616:=by decide
 omega
theorem Zne (v:Value) (l:List UInt8) (w:World) (g:Rd w v l):
 Calls prog 161 #[v] w fun e w'=>e=.returned (.int .u64 (Lib.leNat (l.take 8):Nat))∧w'=w:=by
 obtain⟨ao,cap,rfl,q,h,j,c⟩:=g;clear j;have A:(l.length:Int)<=9223372036854775807:=by unfold maxLen at h;omega
 by_cases C:(l.length:Int)<=8
 all_goals
  go_enter func161,ntmps161
  go_wp2
  go_loop [3,8] (fun n i=>∃ k:Nat,i=.int .i64 k∧k<=8∧k<=l.length∧n=.int .u64 (Lib.leNat (l.take k):Nat)) (fun _ i=>8-(intOf i).toNat)
  case atStart=>exact⟨0,rfl,by omega,by omega,rfl⟩
  case round=>
   obtain⟨k,rfl,B,x,rfl⟩:=hrel;by_cases d:k<8∧k<l.length
   ·obtain⟨d,a⟩:=d
    rcases c with c | ⟨b,u,rfl,f⟩
    ·subst c;simp at a
    ·have t:=f k a
     have m:=ZZ (ZwZ l k a d);have p:(l.getD k 0).toNat<256:=UInt8.toNat_lt _;clear f;generalize (l.getD k 0).toNat=y at *;generalize Lib.leNat (l.take k)=z at *;go_wp2
     go_round
     case rel=>exact⟨k+1,by go_num,by omega,by omega,by rw[m.o]⟩
     case measure=>simp[intOf];omega
   ·go_wp2
    go_ret;refine⟨ZbV ?_,rfl⟩;by_cases e:k=8
    ·rw[e]
    ·rw[List.take_of_length_le (by omega:l.length<=k),List.take_of_length_le (by omega:l.length<=8)]
def bs (l:List UInt8):ByteArray:=⟨l.toArray⟩
theorem ZuD (l:List UInt8):(bs l).toList=l:=ByteArray.toList_mk l
theorem ZAn (a b:List UInt8):((bs a).toList == (bs b).toList)=(a == b):=by rw[ZuD,ZuD]
theorem Rd.str {l:List UInt8} (h:Rd w v l):(convert 53 9 v).run prog w=.ok (.string (bs l)) w:=by
 obtain⟨ao,cap,rfl,_,_,d,h⟩:=h
 cases ao with
 | none=>
  have b:l=[]:=eq_nil_of_length_eq_zero (by have:=d rfl;omega)
  subst b;exact run_convert_bytes_nil w 53 5 underlying53 underlying5 0 cap 9 underlying9
 | some a=>
  have b:(loadCells a l.length).run prog w=.ok ((l.map fun c=>(c.toNat:Int)).map (Value.int .u8)).toArray w:=by
   have:=run_loadCells_list (P:=prog) w a (Lib.byteCells l) (Rd.cells h a rfl);rw[Y0] at this;rw[this];simp[Lib.byteCells,Function.comp_def]
  rw[run_convert_bytes_string w 53 9 5 _ l.length cap underlying53 underlying5 underlying9,run_bytesToString w _ l.length cap _ b,foldl_push_bytes]
  have e:(List.map (fun n:Int=>UInt8.ofNat n.toNat) (List.map (fun c:UInt8=>(c.toNat:Int)) l))=l:=by
   rw[List.map_map]
   conv=>rhs;rw[<-List.map_id l]
   apply List.map_congr_left;intro c _;simp
  rw[e];simp[bs,ByteArray.empty,ByteArray.emptyWithCapacity];rfl
def ZyK (B:Nat) (w:World) (p:Nat) (d:Dk) (N T:Nat):Prop:=∃ F,Dsk F w p d N T∧∀ k,F k->B<=k
theorem ZqP (B:Nat) (room:Int) (b:I64 room) (w:World) (a:B<=w.heap.size):
 Calls prog 9 #[.int .i64 room] w fun e w'=>∃ p,e=.returned (ptr p)∧ZyK B w' p (ZgP room) 0 0∧Below B w w':=by
 refine(ZyF room b w).mono ?_;rintro e w' ⟨p,f,c,d⟩;exact⟨p,f,⟨_,c,fun k g=>by omega⟩,d.mono a⟩
theorem Dsk.ltF {F:Nat->Prop} {p:Nat} (h:Dsk F w p d N T):∀ k,F k->k<w.heap.size:=by
 obtain⟨L,a,_⟩:=h;exact a.lt
theorem Zsi {p:Nat} (w:World) (h:ZyK B w p d N T) (b:N<=1000000):
 Calls prog 28 #[ptr p] w fun e w'=>∃ v,e=.returned v∧Qs w' w.heap.size v ((Qm d).map Prod.fst)∧Below w.heap.size w w':=by
 obtain⟨F,⟨L,c,a,_⟩,f⟩:=h;exact ZeC w c a b
theorem ZyK.ok {p:Nat} (h:ZyK B w p d N T):OkD d∧Bnd d N T:=by
 obtain⟨F,⟨L,e,a,b,_⟩,c⟩:=h;exact⟨a,b⟩
theorem Jw (w:World) (o:Obj):Below w.heap.size w (w.alloc o):=(Below.refl _ w).alloc zL o
theorem Rd.mid {ao:Option Addr} {l:List UInt8} (h:Rd w (.slice ao n cap) l) (i j m:Nat) (A:i<=j) (E:j<=l.length) (z:j<=m) (C:m<=cap):Rd w (sliced ao i j m 1) ((l.drop i).take (j-i)):=by
 obtain⟨D,y,p,F,B,g,a⟩:=h;simp only [Value.slice.injEq] at p;obtain⟨rfl,rfl,rfl⟩:=p;have c:((l.drop i).take (j-i)).length=j-i:=by simp;omega
 unfold sliced;by_cases q:m=i
 ·rw[if_pos q]
  have e:j-i=0:=by omega
  refine⟨ao,m-i,by rw[c],by omega,by omega,fun d=>by have:=g d;omega,.inl ?_⟩
  rw[e];simp
 ·rw[if_neg q]
  refine⟨ao.map (·.add (i*1)),m-i,by rw[c],by omega,by omega,fun d=>?_,?_⟩
  ·have v:ao=none:=by simpa using d
   have:=g v;omega
  ·rcases a with a | ⟨b,u,x,t⟩
   ·exact .inl (by rw[a];simp)
   ·refine .inr ⟨b,u+i,?_,fun k f=>?_⟩
    ·rw[x,Nat.mul_one,Option.map_some,Addr.add_lit]
    ·rw[c] at f
     rw[Nat.add_assoc,t (i+k) (by omega)]
     simp[List.getD,f]
theorem Jo:prog.elem 53=5:=by kernel_rfl
theorem Zce (w:World):(sizeOf 5).run prog w=.ok 1 w:=by
 obtain⟨c,a,_,b,_⟩:=info_parts Zlf;simp[sizeOf,typeInfo,a,b]
theorem Xu:prog.underlying 53=some (.slice (prog.elem 53)):=by rw[Jo];exact underlying53
theorem ZhY (w:World) (v:Value) (l:List UInt8) (a:Rd w v l) (k:IntKind) (i:Int) (c:0<=i) (d:i<=l.length):
 ∃ v',(Instr.sliceAt 53 v (some (.int k i)) none none).run prog w=.ok v' w∧Rd w v' (l.drop i.toNat):=by
 have h:=a;obtain⟨ao,cap,rfl,b,_⟩:=a;refine⟨sliced ao i.toNat l.length cap 1,?_,?_⟩
 ·rw[run_sliceAt_slice w 53 _ _ _ _ Xu,run_slice_l w 53 ao l.length cap Xu k i c (by omega),Jo,Zce]
  rfl
 ·have:=h.mid i.toNat l.length cap (by omega) zL b zL
  rw[List.take_of_length_le (by simp)] at this
  exact this
theorem ZfF (w:World) {e:Array Oper} {rest:List Oper} {o:Oper} {a:Act} {Q:Exit->Act->World->Prop} (i:o.guard=none) (x:Operand) (lo d c:Option Operand)
 (j:o.op=.slice 53 x lo d c) (l:List UInt8)
 (b:∃ v',(Instr.sliceAt 53 (a.eval x) (lo.map a.eval) (d.map a.eval) (c.map a.eval)).run prog w=.ok v' w∧Rd w v' l)
 (h:∀ v',Rd w v' l->wpList prog e Q rest (a.put o.dst v') w):wpList prog e Q (o::rest) a w:=
 wpList_plain i fun _ f=>by
  obtain⟨v',b,g⟩:=b;unfold Oper.wp execOp;simp only [j,b,Sem.run_bind,Sem.run_pure,Result.andThen_ok];exact f _ _ (h v' g)
def Zsj (e:Ent):Value:=.agg #[.int .i64 e.proc,.int .i64 e.seq,.int .i64 e.resp]
def Gq (e:Ent):Array Value:=#[.int .i64 e.proc,.int .i64 e.seq,.int .i64 e.resp]
def Zlx (e:Ent):Prop:=I64 e.proc∧I64 e.seq∧I64 e.resp
def Be (w:World) (b:Nat) (cs:Array Value):Prop:=w.heap[b]?=some (.cells cs 85 (0,0))
theorem Be.lt (h:Be w b cs):b<w.heap.size:=(Array.getElem?_eq_some_iff.1 h).1
theorem Be.below (h:Be w b cs) (a:Below B w w') (c:w.heap.size<=B):Be w' b cs:=(a.block b (by have:=h.lt;omega)).trans h
theorem Be.cell (h:Be w b cs) (j:Nat):w.cell? ⟨b,j,none⟩=cs[j]?∧w.frozen? ⟨b,j,none⟩=false:=⟨cell_of_row w b j _ _ _ h,frozen_of_row w b j _ _ h⟩
def Znf (w:World) (b o:Nat) (e:Ent):Prop:=
 w.cell? ⟨b,o,none⟩=some (.int .i64 e.proc)∧w.cell? ⟨b,o+1,none⟩=some (.int .i64 e.seq)∧w.cell? ⟨b,o+2,none⟩=some (.int .i64 e.resp)
theorem Znf.lt (h:Znf w b o e):b<w.heap.size:=World.block_lt_of_cell? w ⟨b,o,none⟩ h.1
theorem Znf.keep (h:Znf w b o e) (c:w'.heap[b]?=w.heap[b]?):Znf w' b o e:=by
 have d:∀ i,w'.cell? ⟨b,i,none⟩=w.cell? ⟨b,i,none⟩:=fun i=>World.cell?_of_block (a:=⟨b,i,none⟩) c
 unfold Znf at h ⊢;simp only [d];exact h
def RdE (w:World) (v:Value) (l:List Ent):Prop:=
 ∃ ao cap,v=.slice ao l.length cap∧l.length<=cap∧cap<=maxLen∧(ao=none->cap=0)∧(∀ e ∈ l,Zlx e)∧
  (l=[]∨∃ b off,ao=some ⟨b,off,none⟩∧∀ j,j<l.length->Znf w b (off+j*3) (l.getD j Xi))
theorem RdE.nil (w:World):RdE w (.slice none 0 0) []:=⟨none,0,rfl,Nat.le_refl _,Nat.zero_le _,fun _=>rfl,(fun r h=>by simp at h),.inl rfl⟩
theorem RdE.below (h:RdE w v l) {B:Nat} (k:Below B w w') (t:w.heap.size<=B):RdE w' v l:=by
 obtain⟨ao,cap,p,e,f,m,d,a⟩:=h;refine⟨ao,cap,p,e,f,m,d,?_⟩;rcases a with a | ⟨b,i,q,g⟩
 ·exact .inl a
 ·refine .inr ⟨b,i,q,fun j n=>?_⟩
  have c:=g j n;exact c.keep (k.block b (by have:=c.lt;omega))
def Qg:List Ent->List Value
 | []=>[]
 | r::t=>(Gq r).toList++Qg t
theorem Xh:∀ l:List Ent,(Qg l).length=l.length*3
 | []=>rfl
 | r::t=>by
  rw[Qg,length_append,Xh t,length_cons];simp[Gq];omega
theorem Zaz:∀ a b:List Ent,Qg (a++b)=Qg a++Qg b
 | [],_=>rfl
 | r::t,b=>by rw[List.cons_append,Qg,Zaz t b,Qg,List.append_assoc]
theorem Zv:∀ (l:List Ent) (j k:Nat),j<l.length->k<3->(Qg l)[j*3+k]?=(Gq (l.getD j Xi))[k]?
 | r::t,0,k,_,hk=>by
  rw[Qg,Nat.zero_mul,Nat.zero_add,List.getElem?_append_left (by simp[Gq];omega)]
  simp[List.getD]
 | r::t,j+1,k,hj,hk=>by
  have e:(j+1)*3+k=(Gq r).toList.length+(j*3+k):=by simp[Gq];omega
  rw[Qg,e,List.getElem?_append_right (by omega),Nat.add_sub_cancel_left,Zv t j k (by simpa using hj) hk]
  simp[List.getD]
theorem Zac (l:List Ent):∀ u ∈ Qg l,u.oneCell'=true:=by
 induction l with
 | nil=>intro u a;simp[Qg] at a
 | cons r t b=>
  intro u a;rw[Qg] at a;rcases List.mem_append.1 a with h | h
  ·simp[Gq] at h
   rcases h with rfl | rfl | rfl <;> rfl
  ·exact b u h
def Xn (w:World) (B:Nat) (v:Value) (l:List Ent):Prop:=w.ownsRow B 85 3 v l.length (Qg l)
theorem Xn.nil (w:World) (B:Nat):Xn w B (.slice none 0 0) []:=World.ownsRow_nil w B 85 3
theorem Xn.rd (h:Xn w B v l) (c:∀ r ∈ l,Zlx r):RdE w v l:=by
 rcases h.2 with ⟨a,d⟩ | ⟨g,cap,cur,a,t,q,n,m,x,y⟩
 ·exact⟨none,0,by rw[a,d],by omega,Nat.zero_le _,fun _=>rfl,c,.inl (eq_nil_of_length_eq_zero d)⟩
 ·refine⟨some ⟨g,0,none⟩,cap,a,n,m,(fun e=>by cases e),c,.inr ⟨g,0,rfl,fun j p=>?_⟩⟩
  have b:∀ k u,k<3->(Gq (l.getD j Xi))[k]?=some u->w.cell? ⟨g,0+j*3+k,none⟩=some u:=fun k u f i=>by
   have:=World.ownsRow.cells h (g:=g) (by rw[a];rfl) (j*3+k) u ((Zv l j k p f).trans i)
   rw[Addr.add_lit] at this;rw[Nat.add_assoc];exact this
  exact⟨b 0 _ (by decide) rfl,b 1 _ (by decide) rfl,b 2 _ (by decide) rfl⟩
theorem Xn.below (h:Xn w B v l) (e:Below B' w w') (i:w.heap.size<=B'):Xn w' B v l:=by
 obtain⟨f,a⟩:=h;refine⟨f,?_⟩;rcases a with a | ⟨g,cap,cur,d,c,b,r⟩
 ·exact .inl a
 ·have j:g<w.heap.size:=(Array.getElem?_eq_some_iff.1 b).1
  exact .inr ⟨g,cap,cur,d,c,by rw[e.block g (by omega)];exact b,r⟩
theorem Xn.mono (h:Xn w B v l) (d:B'<=B):Xn w B' v l:=by
 obtain⟨c,a⟩:=h;refine⟨c,?_⟩;rcases a with a | ⟨g,cap,cur,b,e,r⟩
 ·exact .inl a
 ·exact .inr ⟨g,cap,cur,b,by omega,r⟩
theorem Xn.shape (h:Xn w B v l):∃ ao cap,v=.slice ao l.length cap:=by
 rcases h.2 with ⟨a,b⟩ | ⟨g,cap,cur,a,_⟩
 ·exact⟨none,0,by rw[a,b]⟩
 ·exact⟨_,_,a⟩
theorem RdE.shape (h:RdE w v l):∃ ao cap,v=.slice ao l.length cap:=by
 obtain⟨ao,cap,a,_⟩:=h;exact⟨ao,cap,a⟩
theorem ZgV:(prog.info? 85).map (fun i=>(i.zero,i.size,i.bytes))=some (some (.agg #[.int .i64 0,.int .i64 0,.int .i64 0]),3,24):=by kernel_rfl
theorem ZjH (w:World) (ty:TypeId) (B:Nat) (v:Value) (l:List Ent) (h:Xn w B v l) (r:Ent) (q:l.length<=1000000) (i:B<=w.heap.size):
 ∃ v' w',(Builtin.append_ #[39,39] ty #[v,.slice (some ⟨w.heap.size,0,none⟩) 1 1]).run prog (w.alloc (.cells (Gq r) 85))=.ok v' w'∧Xn w' B v' (l++[r])∧Below B w w':=by
 obtain⟨b,c,m,e,d⟩:=info_parts ZgV
 obtain⟨v',w',f,p,g,_⟩:=run_append_own (P:=prog) (w.alloc (.cells (Gq r) 85)) B 39 ty 85 b _ 3 24 underlying39 c m e d rfl (by decide) v l.length (Qg l) (h.alloc _)
  ⟨w.heap.size,0,none⟩ 1 1 (Qg [r]) (Xh [r]) (fun j u n=>by
   rw[Addr.add_lit,Nat.zero_add,cell_of_row _ w.heap.size j _ 85 (0,0) (heap_alloc_new w _)]
   simpa[Qg] using n) (Zac [r]) (by unfold maxLen;omega) (by omega) (by simp;omega)
 refine⟨v',w',f,?_,?_⟩
 ·unfold Xn
  rw[length_append,Zaz];exact p
 ·exact((Below.refl _ _).alloc i _).grown g (by simp;omega) (fun k a=>(World.ownsRow.lt h k a).1)
theorem ZfG (w:World) {b:Array Oper} {rest:List Oper} {o:Oper} {a:Act} {Q:Exit->Act->World->Prop} (k:o.guard=none) (s x:Operand)
 (p:o.op=.call { callee:=.builtin .append,args:=#[s,x],argTypes:=#[39,39] })
 (B:Nat) (v:Value) (l:List Ent) (e:a.eval s=v) (f:Xn w B v l) (r:Ent) (c:a.eval x=.slice (some ⟨w.heap.size,0,none⟩) 1 1)
 (g:l.length<=1000000) (n:B<=w.heap.size)
 (h:∀ v' w',Xn w' B v' (l++[r])->Below B w w'->wpList prog b Q rest (a.put o.dst v') w'):wpList prog b Q (o::rest) a (w.alloc (.cells (Gq r) 85)):=
 wpList_plain k fun _ d=>by
  obtain⟨v',w',m,i,j⟩:=ZjH w o.type B v l f r g n;unfold Oper.wp execOp;simp only [p,resolve,invoke,builtin,Sem.run_bind,Sem.run_pure,Result.andThen_ok,List.map_toArray,map_cons,map_nil,e,c,m];exact d _ _ (h v' w' i j)
def SnV (w:World) (v:Value) (s:Q0):Prop:=
 ∃ vl vt,v=.agg #[.int .i64 s.idx,.int .i64 s.st.kind,vl,.bool s.st.shut,.int .i64 s.st.eng,vt]∧RdI w vl s.st.L∧I64 s.st.kind∧I64 s.st.eng∧RdE w vt s.tab∧I64 s.idx
def G8 (p:Int):List Ent->Nat
 | []=>0
 | x::t=>if p<x.proc then 0 else G8 p t+1
theorem Zng (p:Int):∀ t,G8 p t<=t.length
 | []=>Nat.le_refl _
 | x::t=>by
  rw[G8];split
  ·exact Nat.zero_le _
  ·have:=Zng p t
   rw[length_cons];omega
def Zpd (p:Int) (t:List Ent):List Ent:=t.filter (fun x=>decide (x.proc≠p))
theorem Zxa (p:Int) (t:List Ent):(Zpd p t).length<=t.length:=List.length_filter_le _ _
theorem Znh (e:Ent):∀ t:List Ent,ZcF t e=(Zpd e.proc t).take (G8 e.proc (Zpd e.proc t))++(e::(Zpd e.proc t).drop (G8 e.proc (Zpd e.proc t)))
 | []=>rfl
 | x::t=>by
  have b:=Znh e t;unfold ZcF at b ⊢;unfold Zpd at b ⊢
  have d:(x::t).filter (fun y=>decide (y.proc≠e.proc))=if x.proc=e.proc then t.filter (fun y=>decide (y.proc≠e.proc)) else x::t.filter (fun y=>decide (y.proc≠e.proc)):=by
   rw[List.filter_cons];by_cases h:x.proc=e.proc <;> simp[h]
  rw[Zfy,d];by_cases c:x.proc=e.proc
  ·have a:¬ e.proc<x.proc:=by omega
   simp only [c,if_true];rw[if_neg (by simp),decide_eq_false (by omega),Bool.false_or,b]
   rfl
  ·simp only [if_neg c]
   by_cases a:e.proc<x.proc
   ·rw[if_pos (by simp[a]),decide_eq_true a,Bool.or_true,Zfz,G8,if_pos a]
    rfl
   ·rw[if_neg (fun h=>a h.2),decide_eq_false a,Bool.or_false,G8,if_neg a,b]
    rfl
theorem Zkn {p:Int}:∀ {t:List Ent},(∀ j,j<t.length->¬ p<(t.getD j Xi).proc)->G8 p t=t.length
 | [],_=>rfl
 | x::t,h=>by
  have a:=h 0 (by simp)
  rw[show(x::t).getD 0 Xi=x from rfl] at a;rw[G8,if_neg a,Zkn (fun j b=>h (j+1) (by simpa using b))]
  rfl
theorem Zni {p:Int}:∀ {t:List Ent} {i:Nat},i<t.length->(∀ j,j<i->¬ p<(t.getD j Xi).proc)->p<(t.getD i Xi).proc->G8 p t=i
 | [],i,hi,_,_=>absurd hi (Nat.not_lt_zero _)
 | x::t,0,_,_,h=>by
  rw[show(x::t).getD 0 Xi=x from rfl] at h;rw[G8,if_pos h]
 | x::t,i+1,hi,hb,h=>by
  have a:=hb 0 (by omega)
  rw[show(x::t).getD 0 Xi=x from rfl] at a;rw[G8,if_neg a,Zni (i:=i) (by simpa using hi) (fun j b=>hb (j+1) (by omega)) h]
theorem ZuE {b:List UInt8} {r:List Ent × List UInt8} (h:Jx n b=some r):n<=b.length:=by
 obtain⟨t,x⟩:=r;obtain⟨c,a⟩:=ZdL n b t x h;have:=ZmN t;rw[a,length_append];omega
theorem Znj {b:List UInt8} (c:(Qb b).2≠0):Zbe b=(Jx (Qb b).1 (b.drop (Qb b).2)).bind (fun r=>if r.2=[] then some r.1 else none):=by
 unfold Zbe;by_cases a:b.length<(Qb b).1
 ·rw[if_pos (.inr a)]
  cases h:Jx (Qb b).1 (b.drop (Qb b).2) with
  | none=>rfl
  | some r=>
   have:=ZuE h;rw[length_drop] at this;omega
 rw[if_neg (by omega)]
 cases Jx (Qb b).1 (b.drop (Qb b).2) with
 | none=>rfl
 | some p=>
  obtain⟨t,x⟩:=p
  cases x <;> rfl
theorem Zpe {l:List UInt8} {a:Nat} (h:a<l.length):Ya (l.drop a)=(l.drop a).take 64::Ya (l.drop (a+64)):=by
 rw[Zx (fun e=>by
  have:=congrArg List.length e;rw[length_drop,List.length_nil] at this
  omega),drop_drop]
theorem ZuF (P:List (List UInt8)):Zfx P↔P=Ya P.flatten:=
 ⟨fun h=>(ZcD P h).symm,fun h=>by rw[h];exact ZcE _ _ zL⟩
theorem ZuG (e:Ent):Qz ⟨0,e.proc,e.seq,⟨0,0,0⟩,e.resp⟩↔Zbm e:=by
 unfold Qz Zbm Ge;simp only;omega
def ZhZ (t:List Ent):Nat->Int
 | 0=>0
 | k+1=>(t.getD k Xi).proc+1
theorem Zpf {t:List Ent} {k:Nat}:Gf t (k+1)↔Gf t k∧Zbm (t.getD k Xi)∧ZhZ t k<=(t.getD k Xi).proc:=by
 rw[Gf.next];constructor
 ·rintro⟨h1,h2,h3⟩
  refine⟨h1,h2,?_⟩
  cases k with
  | zero=>exact h2.1
  | succ k=>
   have:=h3 (by omega)
   rw[Nat.add_sub_cancel] at this;rw[ZhZ];omega
 ·rintro⟨h1,h2,h3⟩
  refine⟨h1,h2,fun h=>?_⟩
  cases k with
  | zero=>omega
  | succ k=>
   rw[ZhZ] at h3;rw[Nat.add_sub_cancel];omega
theorem ZuH (i:Int) (t:List Ent):¬ Z6 ⟨i,ZcB,t⟩:=by
 rintro⟨-,h,-⟩
 revert h
 show ¬ Yl ZcB;decide
def Zs:Nat->List UInt8->Option (List Nat × List UInt8)
 | 0,b=>some ([],b)
 | n+1,b=>if(Qb b).2=0 then none else(Zs n (b.drop (Qb b).2)).map (fun r=>((Qb b).1::r.1,r.2))
theorem ZaO {P:Program} (w:World) (h y ty e:TypeId) (k:Nat) (b o d p:Nat) (a:Addr) (c q:Nat) (cs:List Value)
 (n:P.underlying h=some (.slice e)) (g:(P.info? e).map (·.size)=some k) (u:cs.length=Nat.min c d*k)
 (x:∀ j v,cs[j]?=some v->w.cell? (a.add j)=some v) (A:∀ j,j<cs.length->(w.cell? ⟨b,o+j,none⟩).isSome=true) (l:∀ j,j<cs.length->w.frozen? ⟨b,o+j,none⟩=false) (z:∀ v ∈ cs,v.oneCell'=true):
 (Builtin.copy_ #[h,y] ty #[.slice (some ⟨b,o,none⟩) d p,.slice (some a) c q]).run P w=.ok (goInt (Nat.min c d)) (w.setCells b o cs):=by
 have f:=run_loadCells_list (P:=P) w a cs x;have t:=run_storeCells_cells (P:=P) b o cs 0 w (by simpa using A) (by simpa using l) z
 cases hq:P.info? e with
 | none=>simp[hq] at g
 | some i=>
  have m:i.size=k:=by simpa[hq] using g
  rw[u] at f;simp[Builtin.copy_,run_underlying n,Builtin.lenOf,Builtin.firstCells,sizeOf,typeInfo,hq,m,f,t]
def Zbu:Nat->List Value
 | 0=>[]
 | n+1=>.int .i64 0::.int .i64 0::.int .i64 0::Zbu n
theorem Gk:∀ n,(Zbu n).length=n*3
 | 0=>rfl
 | n+1=>by rw[Zbu,length_cons,length_cons,length_cons,Gk n];omega
theorem ZfH:∀ n,∀ v ∈ Zbu n,v=.int .i64 0
 | 0,v,h=>by simp[Zbu] at h
 | n+1,v,h=>by
  rw[Zbu,mem_cons,mem_cons,mem_cons] at h;rcases h with h | h | h | h
  ·exact h
  ·exact h
  ·exact h
  ·exact ZfH n v h
theorem Zko (n:Nat):(Builtin.zeroCells (Value.agg #[.int .i64 0,.int .i64 0,.int .i64 0]).cells n).toList=Zbu n:=by
 have c:(Value.agg #[.int .i64 0,.int .i64 0,.int .i64 0]).cells=#[.int .i64 0,.int .i64 0,.int .i64 0]:=by rfl
 rw[c];apply List.ext_getElem?;intro i;by_cases h:i<n*3
 ·have a:i<(Zbu n).length:=by rw[Gk];exact h
  have b:(Zbu n)[i]?=some (.int .i64 0):=by
   rw[List.getElem?_eq_getElem a,ZfH n _ (List.getElem_mem a)]
  rw[b];have f:i % 3=0∨i % 3=1∨i % 3=2:=by omega
  simp only [Builtin.zeroCells,Array.getElem?_toList,Array.getElem?_map];have d:(Array.range (n*(#[Value.int .i64 0,.int .i64 0,.int .i64 0]:Array Value).size))[i]?=some i:=by simp[h]
  rw[d];have g:(#[Value.int .i64 0,.int .i64 0,.int .i64 0]:Array Value).size=3:=rfl;rw[g];rcases f with e | e | e <;> rw[Option.map_some,e] <;> rfl
 ·rw[List.getElem?_eq_none (by simp[Builtin.zeroCells];omega),List.getElem?_eq_none (by rw[Gk];omega)]
theorem Zia {P:Program} (w:World) (t e ty:TypeId) (h:P.underlying t=some (.slice e)) (f:∀ w,(zeroValue e).run P w=.ok (.agg #[.int .i64 0,.int .i64 0,.int .i64 0]) w) (b o n c:Nat) (k:0<n)
 (i:∀ j,j<n*3->(w.cell? ⟨b,o+j,none⟩).isSome=true) (d:∀ j,j<n*3->w.frozen? ⟨b,o+j,none⟩=false):
 (Builtin.clear_ #[t] ty #[.slice (some ⟨b,o,none⟩) n c]).run P w=.ok (.tuple #[]) (w.setCells b o (Zbu n)):=by
 have a:=run_storeCells_cells (P:=P) b o (Zbu n) 0 w (by rw[Gk];simpa using i) (by rw[Gk];simpa using d) (by intro v g;rw[ZfH n v g];rfl)
 simp only [Nat.add_zero] at a;obtain⟨m,rfl⟩:∃ m,n=m+1:=⟨n-1,by omega⟩
 simp[Builtin.clear_,run_underlying h,f,Zko,a]
def Zpg (r s:Ent):Bool:=r.proc == s.proc && r.seq == s.seq && r.resp == s.resp
theorem ZuI (w:World) (r s:Ent):(binOp .neq 85 (.agg #[.int .i64 r.proc,.int .i64 r.seq,.int .i64 r.resp]) (.agg #[.int .i64 s.proc,.int .i64 s.seq,.int .i64 s.resp])).run prog w=.ok (.bool (!Zpg r s)) w:=by
 have d:=underlying3;have e:=Tryz.isAgg3;have c:=Tryz.sizeOf3;have a:prog.underlying 85=some (.struct (prog.fieldsOf 85)):=by kernel_rfl
 have b:prog.stoodInHeld 85=false:=by kernel_rfl
 unfold Zpg;rw[run_neq_struct,show(10000:Nat)=9999+1 from rfl,run_equalIn_agg w 9999 85 _ _ a b];simp only [Program.fieldsOf,underlying85]
 go_simp
 repeat' split
 all_goals simp_all
theorem ZuJ:prog.eqGuardType prog.depth 85=false:=by kernel_rfl
theorem Znk (r s:Ent):Zpg r s=true↔r=s:=by
 obtain⟨i,p,q⟩:=r;obtain⟨c,b,a⟩:=s;simp[Zpg];constructor
 ·rintro⟨⟨rfl,rfl⟩,rfl⟩
  simp
 ·rintro⟨rfl,rfl,rfl⟩
  simp
theorem Zsk (r:Ent):Zpg r r=true:=(Znk r r).2 rfl
theorem ZuK {r s:Ent} (h:r≠s):Zpg r s=false:=by
 cases hq:Zpg r s
 ·rfl
 ·exact absurd ((Znk _ _).1 hq) h
open Go.RowKit Go.Shelf
def Zxb:Go.Shelf.Ren:=⟨fun | 111=>89 | n=>n,fun | 28=>23 | 3=>3 | 4=>4 | 0=>0 | n=>n,fun | n=>n⟩
theorem ZAo:Go.Proofs.Lays.n111 prog Zxb:={
 mixed:=by kernel_rfl
 f111:=func89.trans (congrArg some (by kernel_rfl))
 t0:=underlying0
 a0:=Tryz.isAgg0
 z0:=Tryz.sizeOf0
 v0:=Tryz.zeroValue0
 t3:=underlying3
 a3:=Tryz.isAgg3
 z3:=Tryz.sizeOf3
 v3:=Tryz.zeroValue3
 t4:=underlying4
 a4:=Tryz.isAgg4
 z4:=Tryz.sizeOf4
 v4:=Tryz.zeroValue4
 t28:=underlying23
 a28:=Tryz.isAgg23
 z28:=Tryz.sizeOf23
 v28:=Tryz.zeroValue23 }
def Zsl:Go.Shelf.Ren:=⟨fun | 15=>39 | n=>n,fun | 22=>23 | 3=>3 | 4=>4 | n=>n,fun | n=>n⟩
theorem ZuL:Go.Proofs.Lays2.n15 prog Zsl:={
 mixed:=by kernel_rfl
 f15:=func39.trans (congrArg some (by kernel_rfl))
 t3:=underlying3
 a3:=Tryz.isAgg3
 z3:=Tryz.sizeOf3
 v3:=Tryz.zeroValue3
 t4:=underlying4
 a4:=Tryz.isAgg4
 z4:=Tryz.sizeOf4
 v4:=Tryz.zeroValue4
 t22:=underlying23
 a22:=Tryz.isAgg23
 z22:=Tryz.sizeOf23
 v22:=Tryz.zeroValue23
 i3:=by kernel_rfl }
def Zsm:Go.Shelf.Ren:=⟨fun | 23=>210 | n=>n,fun | 22=>23 | 3=>3 | 4=>4 | 0=>0 | n=>n,fun | n=>n⟩
theorem ZzD:Go.Proofs.Lays2.n23 prog Zsm:={
 mixed:=by kernel_rfl
 f23:=func210.trans (congrArg some (by kernel_rfl))
 t0:=underlying0
 a0:=Tryz.isAgg0
 z0:=Tryz.sizeOf0
 v0:=Tryz.zeroValue0
 t3:=underlying3
 a3:=Tryz.isAgg3
 z3:=Tryz.sizeOf3
 v3:=Tryz.zeroValue3
 t4:=underlying4
 a4:=Tryz.isAgg4
 z4:=Tryz.sizeOf4
 v4:=Tryz.zeroValue4
 t22:=underlying23
 a22:=Tryz.isAgg23
 z22:=Tryz.sizeOf23
 v22:=Tryz.zeroValue23
 i3:=by kernel_rfl }
def Zkp:Go.Shelf.Ren:=⟨fun | 21=>212 | 27=>223 | 28=>224 | 35=>229 | 39=>232 | n=>n,fun | 22=>23 | 3=>3 | 4=>4 | 0=>0 | n=>n,fun | n=>n⟩
theorem Znl:Go.Proofs.Lays2.n21 prog Zkp:={
 mixed:=by kernel_rfl
 f21:=func212.trans (congrArg some (by kernel_rfl))
 f27:=func223.trans (congrArg some (by kernel_rfl))
 f28:=func224.trans (congrArg some (by kernel_rfl))
 f35:=func229.trans (congrArg some (by kernel_rfl))
 f39:=func232.trans (congrArg some (by kernel_rfl))
 t0:=underlying0
 a0:=Tryz.isAgg0
 z0:=Tryz.sizeOf0
 v0:=Tryz.zeroValue0
 t3:=underlying3
 a3:=Tryz.isAgg3
 z3:=Tryz.sizeOf3
 v3:=Tryz.zeroValue3
 t4:=underlying4
 a4:=Tryz.isAgg4
 z4:=Tryz.sizeOf4
 v4:=Tryz.zeroValue4
 t22:=underlying23
 a22:=Tryz.isAgg23
 z22:=Tryz.sizeOf23
 v22:=Tryz.zeroValue23
 i3:=by kernel_rfl }
def Zfm (cur:Array Value):Nat->List Value->Array Value
 | _,[]=>cur
 | o,v::r=>Zfm (cur.setIfInBounds o v) (o+1) r
theorem Xr:∀ (vs:List Value) (o:Nat) (cur:Array Value),(Zfm cur o vs).size=cur.size
 | [],_,_=>rfl
 | v::r,o,cur=>by rw[Zfm,Xr r];simp
theorem Yq:∀ (vs:List Value) (o:Nat) (cur:Array Value) (j:Nat),j<cur.size->(Zfm cur o vs)[j]?=if o<=j∧j<o+vs.length then vs[j-o]? else cur[j]?
 | [],o,cur,j,_=>by
  rw[Zfm,if_neg (by rw[List.length_nil];omega)]
 | v::r,o,cur,j,hj=>by
  rw[Zfm,Yq r (o+1) _ j (by simpa using hj)]
  by_cases h:j=o
  ·subst h
   rw[if_neg (by omega),if_pos (by simp)]
   simp[hj]
  ·by_cases a:o+1<=j∧j<o+1+r.length
   ·rw[if_pos a,if_pos (by simp;omega)]
    rw[show j-o=(j-(o+1))+1 by omega]
    simp
   ·rw[if_neg a,if_neg (by simp;omega)]
    simp[show ¬ o=j by omega]
theorem Xy (g:Nat) (t:TypeId):∀ (vs:List Value) (o:Nat) (w:World) (cur:Array Value),w.heap[g]?=some (.cells cur t (0,0))->(w.setCells g o vs).heap[g]?=some (.cells (Zfm cur o vs) t (0,0))
 | [],_,_,_,h=>h
 | v::r,o,w,cur,h=>by
  rw[World.setCells,Zfm];exact Xy g t r (o+1) _ _ (heap_setCell_same w g o cur t v h)
theorem Gy (b:B<=g):∀ (vs:List Value) (o:Nat) (w:World),Below B a w->Below B a (w.setCells g o vs)
 | [],_,_,h=>h
 | v::r,o,w,h=>by
  rw[World.setCells];exact Gy b r (o+1) _ (h.setCell b v)
theorem Zib (h:Below B a w):Below B a w.drew:=⟨h.os,h.tape,h.output,h.size,h.block⟩
theorem Qs.ofRow {l:List Int} (d:B<=g) (b:w.heap[g]?=some (.cells cur 3 (0,0))) (c:l.length<=cap) (f:cap<=maxLen) (e:cur.size=cap) (h:∀ j,j<l.length->cur[j]?=some (.int .i64 (l.getD j 0))):
 Qs w B (.slice (some ⟨g,0,none⟩) l.length cap) l:=by
 refine⟨by rw[Zk,Nat.mul_one],.inr ⟨g,cap,cur,rfl,d,b,c,f,by rw[e,Nat.mul_one],?_⟩⟩
 apply List.ext_getElem?;intro j;rw[Nat.mul_one];by_cases a:j<l.length
 ·rw[List.getElem?_take_of_lt a,Zu l j a,Array.getElem?_toList]
  exact h j a
 ·rw[List.getElem?_eq_none (by simp;omega),List.getElem?_eq_none (by rw[Zk];omega)]
theorem Qs.ofRowN {l:List Int} (c:n=l.length) (d:B<=g) (a:w.heap[g]?=some (.cells cur 3 (0,0))) (b:l.length<=cap) (f:cap<=maxLen) (e:cur.size=cap) (h:∀ j,j<l.length->cur[j]?=some (.int .i64 (l.getD j 0))):
 Qs w B (.slice (some ⟨g,0,none⟩) n cap) l:=by
 subst c;exact Qs.ofRow d a b f e h
theorem Qs.row {l:List Int} (h:Qs w B v l):(v=.slice none 0 0∧l=[])∨∃ g cap cur,v=.slice (some ⟨g,0,none⟩) l.length cap∧B<=g∧g<w.heap.size∧w.heap[g]?=some (.cells cur 3 (0,0))∧l.length<=cap∧cap<=maxLen∧cur.size=cap∧∀ j,j<l.length->cur[j]?=some (.int .i64 (l.getD j 0)):=by
 rcases h.2 with ⟨b,a⟩ | ⟨g,cap,cur,b,a,c,i,m,f,k⟩
 ·exact .inl ⟨b,eq_nil_of_length_eq_zero a⟩
 ·refine .inr ⟨g,cap,cur,b,a,(Array.getElem?_eq_some_iff.1 c).1,c,i,m,by rw[f,Nat.mul_one],fun j d=>?_⟩
  have e:=Zu l j d;rw[<-k,Nat.mul_one,List.getElem?_take_of_lt d,Array.getElem?_toList] at e;exact e
theorem Zkq (w:World) (q:Nat):(w.drewN q).heap=w.heap:=by
 induction q generalizing w with
 | zero=>rfl
 | succ n a=>exact a _
structure Mv (w w':World) (v v':Value):Prop where
 grown:w.grownBy w' v.ownBlock
 lies:∀ b,v'.ownBlock=some b->v.ownBlock=some b∨w.heap.size<=b
theorem Mv.size (h:Mv w w' v v'):w.heap.size<=w'.heap.size:=h.grown.size
theorem Mv.ofBelow (h:Below w.heap.size w w') (v:Value):Mv w w' v v:=⟨⟨h.os,h.tape,h.output,h.size,fun k a _=>h.block k a⟩,fun _ b=>.inl b⟩
theorem Mv.refl (w:World) (v:Value):Mv w w v v:=Mv.ofBelow (Below.refl _ _) v
theorem Mv.alloc (w:World) (v:Value) (X:Obj):Mv w (w.alloc X) v v:=Mv.ofBelow ((Below.refl _ _).alloc zL X) v
theorem Mv.trans {i g:World} {j:Value} (a:Mv w i v f) (c:Mv i g f j):Mv w g v j:=by
 have n:=a.size;refine⟨⟨c.grown.os.trans a.grown.os,c.grown.tape.trans a.grown.tape,c.grown.output.trans a.grown.output,Nat.le_trans n c.size,fun k l d=>?_⟩,fun b m=>?_⟩
 ·rw[c.grown.block k (by omega) (fun e=>?_)]
  ·exact a.grown.block k l d
  ·rcases a.lies k e.symm with h | h
   ·exact d h.symm
   ·omega
 ·rcases c.lies b m with h | h
  ·exact a.lies b h
  ·exact .inr (by omega)
theorem Mv.drew (h:Mv w w' v v'):Mv w w'.drew v v':=⟨⟨h.grown.os,h.grown.tape,h.grown.output,h.grown.size,h.grown.block⟩,h.lies⟩
theorem Mv.below (h:Mv w w' v v') {B:Nat} {l:List Int} (a:Qs w B v l) (c:B<=w.heap.size):Below B w w':=
 ⟨h.grown.os,h.grown.tape,h.grown.output,h.size,fun k b=>h.grown.block k (by omega) (fun e=>by have:=(World.ownsRow.lt a k e.symm).1;omega)⟩
theorem Mv.app (h:w.grownBy w' v.ownBlock) (e:w.heap.size=N) (a:v'.ownBlock=v.ownBlock∨∃ g,v'.ownBlock=some g∧N<=g):Mv w w' v v':=by
 refine⟨h,fun b c=>?_⟩
 rcases a with a | ⟨g,a,d⟩
 ·exact .inl (by rw[<-a];exact c)
 ·rw[a] at c
  injection c with c
  exact .inr (by omega)
theorem Zar (g:Nat):∀ (vs:List Value) (o:Nat) (w:World) (k:Nat),k≠g->(w.setCells g o vs).heap[k]?=w.heap[k]?
 | [],_,_,_,_=>rfl
 | v::r,o,w,k,h=>by
  rw[World.setCells,Zar g r (o+1) _ k h];exact Below.heap_setCell _ _ _ _ h
theorem Mv.cells {n' c':Nat} (h:Mv w w' v (.slice (some ⟨g,0,none⟩) n c)) (o:Nat) (vs:List Value):Mv w (w'.setCells g o vs) v (.slice (some ⟨g,0,none⟩) n' c'):=by
 have d:=Gy (B:=0) (g:=g) (a:=w') (Nat.zero_le _) vs o w' (Below.refl _ _);refine⟨⟨d.os.trans h.grown.os,d.tape.trans h.grown.tape,d.output.trans h.grown.output,Nat.le_trans h.size d.size,fun k i f=>?_⟩,fun b d=>h.lies b d⟩
 rw[Zar g vs o w' k (fun e=>?_)]
 ·exact h.grown.block k i f
 ·rcases h.lies g rfl with h' | h'
  ·exact f (by rw[e,h'])
  ·omega
theorem Mv.made (h:Mv w w' v f) (X:Obj) (n c:Nat):Mv w (w'.alloc X) v (.slice (some ⟨w'.heap.size,0,none⟩) n c):=by
 have a:=(Below.refl w'.heap.size w').alloc zL X;refine⟨⟨a.os.trans h.grown.os,a.tape.trans h.grown.tape,a.output.trans h.grown.output,Nat.le_trans h.size a.size,fun k d e=>?_⟩,fun b a=>.inr ?_⟩
 ·rw[a.block k (by have:=h.size;omega)]
  exact h.grown.block k d e
 ·have:=ZoJ a
  have:=h.size;omega
theorem Mv.drewN (h:Mv w w' v v') (q:Nat):Mv w (w'.drewN q) v v':=by
 have a:=Xo (Below.refl 0 w') q;exact⟨⟨a.os.trans h.grown.os,a.tape.trans h.grown.tape,a.output.trans h.grown.output,Nat.le_trans h.size a.size,fun k b c=>by rw[Zkq];exact h.grown.block k b c⟩,h.lies⟩
theorem Qs.put {l:List Int} (h:Qs w B v l) (j:Nat) (k:j<l.length) (n:Int):
 ∃ g cap,v=.slice (some ⟨g,0,none⟩) l.length cap∧w.cell? ⟨g,j,none⟩=some (.int .i64 (l.getD j 0))∧w.frozen? ⟨g,j,none⟩=false∧B<=g∧g<w.heap.size∧Qs (w.setCell ⟨g,j,none⟩ (.int .i64 n)) B v (l.set j n)∧Mv w (w.setCell ⟨g,j,none⟩ (.int .i64 n)) v v:=by
 rcases h.row with ⟨_,a⟩ | ⟨g,cap,cur,rfl,a,q,c,p,u,m,d⟩
 ·subst a;simp at k
 ·refine⟨g,cap,rfl,?_,frozen_of_row w g j _ _ c,a,q,?_,(Mv.refl w (.slice (some ⟨g,0,none⟩) l.length cap)).cells j [_]⟩
  ·rw[cell_of_row w g j _ _ _ c]
   exact d j k
  ·have e:l.length=(l.set j n).length:=by simp
   rw[e];refine Qs.ofRow a (heap_setCell_same w g j _ _ _ c) (by rw[<-e];exact p) u (by simpa using m) (fun i b=>?_)
   rw[<-e] at b;by_cases f:i=j
   ·subst f
    have:i<cur.size:=by omega
    simp[this,List.getD,b]
   ·have t:¬ j=i:=fun h=>f h.symm
    have:=d i b;simp[t,this,List.getD]
theorem ZfI (v:Value) (l:List Int) (w:World) (j:RdI w v l) (t:l.length<=1000000):
 Calls prog 39 #[v] w fun e w'=>∃ v',e=.returned v'∧Qs w' w.heap.size v' l∧Below w.heap.size w w':=by
 obtain⟨ao,cap,rfl,p,q,k,n,g⟩:=j
 cases ao with
 | none=>
  have i:=k rfl;have c:l=[]:=eq_nil_of_length_eq_zero (by omega)
  subst c;refine Calls.mono (Any.slices_Clone_int_nil ZuL _ cap w) ?_;rintro e w' ⟨rfl,rfl⟩;exact⟨_,rfl,Qs.nil _ _,Below.refl _ _⟩
 | some a=>
  by_cases c:l=[]
  ·subst c
   refine Calls.mono (Any.slices_Clone_int_zero ZuL a cap w) ?_;rintro e w' ⟨v',rfl,d,_,h⟩;exact⟨v',rfl,d,h⟩
  ·rcases g with g | ⟨b,m,f,i⟩
   ·exact absurd g c
   ·injection f with f
    subst f;refine Calls.mono (Any.slices_Clone_int ZuL b m l.length cap l w zL (by omega) i) ?_
    rintro e w' ⟨v',rfl,d,_,h⟩;refine⟨v',rfl,?_,h⟩;rw[take_length] at d;exact d
theorem Zsn (f:Value) (A:List Int) (i:Value) (B:List Int) (w:World) (y:RdI w f A) (u:RdI w i B):
 Calls prog 89 #[f,i] w fun e w'=>e=.returned (.bool (decide (A=B)))∧Below w.heap.size w w':=by
 obtain⟨ao,cap,rfl,G,m,H,F,b⟩:=y;obtain⟨j,a,rfl,I,x,E,K,c⟩:=u;by_cases g:A.length=B.length
 ·by_cases d:A.length=0
  ·have p:A=[]:=eq_nil_of_length_eq_zero d
   have n:B=[]:=eq_nil_of_length_eq_zero (by omega)
   subst p;subst n;refine Calls.mono (Any.slices_Equal_int_empty ZAo ao j cap 0 a w (by omega)) ?_
   rintro e w' ⟨rfl,rfl⟩;exact⟨rfl,Below.refl _ _⟩
  ·rcases b with b | ⟨t,C,rfl,k⟩
   ·rw[b] at d;simp at d
   rcases c with c | ⟨v,l,rfl,z⟩
   ·have J:B.length=0:=by rw[c];rfl
    omega
   have L:cap<=9223372036854775807:=by unfold maxLen at m;omega
   have D:a<=9223372036854775807:=by unfold maxLen at x;omega
   refine Calls.mono (Any.slices_Equal_int ZAo t C A.length cap v l B.length a A B w zL zL (by omega) (by omega) k z) ?_
   rintro e w' ⟨rfl,q,rfl⟩;refine⟨?_,Xo (Below.refl _ _) q⟩;rw[take_length,take_length];by_cases h:A=B
   ·rw[decide_eq_true h,beq_iff_eq.2 h]
   ·rw[decide_eq_false h,beq_eq_false_iff_ne.2 h]
 ·refine Calls.mono (Any.slices_Equal_int_lens ZAo ao j A.length cap B.length a w g) ?_
  rintro e w' ⟨rfl,rfl⟩;exact⟨by rw[decide_eq_false (fun h=>g (by rw[h]))],Below.refl _ _⟩
theorem Zic (v:Value) (l:List Int) (B:Nat) (w:World) (u:Qs w B v l) (i j:Nat) (z:i<j) (c:j<=l.length) (I J:Int) (x:I=i) (d:J=j):
 Calls prog 210 #[v,.int .i64 I,.int .i64 J] w fun e w'=>∃ v',e=.returned v'∧Qs w' B v' (l.take i++l.drop j)∧Mv w w' v v':=by
 subst x;subst d;rcases u.row with ⟨_,m⟩ | ⟨g,cap,cur,rfl,n,A,b,t,h,f,y⟩
 ·subst m;simp at c;omega
 ·unfold maxLen at h
  refine Calls.mono (Any.slices_Delete_int_cells ZzD g 0 l.length cap i j l w zL t (by omega) (by omega) c
   (fun k a=>by rw[Nat.zero_add,cell_of_row w g k _ _ _ b];exact y k a) (fun k a=>by rw[Nat.zero_add];exact frozen_of_row w g k _ _ b)) ?_
  rintro e w' ⟨rfl,q,rfl⟩;refine⟨_,rfl,?_,((Mv.refl w (.slice (some ⟨g,0,none⟩) l.length cap)).drewN q).cells _ _⟩;have p:(l.take i++l.drop j).length=l.length-(j-i):=by simp;omega
  rw[<-p];refine Qs.ofRow n (Xy g _ _ _ _ cur (by rw[Zkq];exact b)) (by omega) (by unfold maxLen;omega) (by rw[Xr];exact f) (fun k a=>?_)
  rw[Yq _ _ _ _ (by omega),take_length,if_pos (by simp at a ⊢;omega),Nat.sub_zero,List.map_append,List.getElem?_append_left (by simpa using a)]
  exact Zu _ k a
theorem get3 {α:Type} (A vs:List α) (i:Nat) (d:i<=A.length) (j:Nat):(A.take i++(vs++A.drop i))[j]?=if j<i then A[j]? else if j<i+vs.length then vs[j-i]? else A[j-vs.length]?:=by
 have c:(A.take i).length=i:=by simp;omega
 by_cases a:j<i
 ·rw[if_pos a,List.getElem?_append_left (by omega),List.getElem?_take_of_lt a]
 ·rw[if_neg a,List.getElem?_append_right (by omega),c]
  by_cases b:j<i+vs.length
  ·rw[if_pos b,List.getElem?_append_left (by omega)]
  ·rw[if_neg b,List.getElem?_append_right (by omega),List.getElem?_drop]
   congr 1
   omega
theorem ZcK (A B:List Int):Qr (A++B)=Qr A++Qr B:=by simp[Qr]
theorem Zly (A:List Int) (i:Nat):Qr (A.take i)=(Qr A).take i:=by simp[Qr]
theorem Zlz (A:List Int) (i:Nat):Qr (A.drop i)=(Qr A).drop i:=by simp[Qr]
theorem ZeE (l:List Int) (i:Nat) (a:i<=l.length) (x y:Int) (j:Nat) (b:j<(l.take i++([x,y]++l.drop i)).length):
 some (.int .i64 ((l.take i++([x,y]++l.drop i)).getD j 0))=if j<i then(Qr l)[j]? else if j<i+2 then[Value.int .i64 x,.int .i64 y][j-i]? else(Qr l)[j-2]?:=by
 rw[<-Zu _ j b,ZcK,ZcK,Zly,Zlz];exact get3 (Qr l) (Qr [x,y]) i (by rw[Zk];exact a) j
theorem Zph (v:Value) (l:List Int) (B:Nat) (w:World) (ho:Qs w B v l) (hB:B<=w.heap.size) (af:l.length<=1000000) (i:Nat) (K:i<=l.length) (I:Int) (hI:I=i) (x y:Int) (N:Nat) (hN:N=w.heap.size):
 Calls prog 212 #[v,.int .i64 I,.slice (some ⟨N,0,none⟩) 2 2] (w.alloc (.cells #[.int .i64 x,.int .i64 y] 3)) fun e w'=>∃ v',e=.returned v'∧Qs w' B v' (l.take i++([x,y]++l.drop i))∧Mv w w' v v':=by
 subst hI;subst hN;have D:Mv w (w.alloc (.cells #[.int .i64 x,.int .i64 y] 3)) v v:=Mv.alloc w v _;have H:=heap_alloc_new w (.cells #[.int .i64 x,.int .i64 y] 3);have ae:(w.alloc (.cells #[.int .i64 x,.int .i64 y] 3)).heap.size=w.heap.size+1:=by simp
 have ac:∀ k,k<w.heap.size->(w.alloc (.cells #[.int .i64 x,.int .i64 y] 3)).heap[k]?=w.heap[k]?:=fun k hk=>Below.heap_alloc _ _ _ hk
 generalize w.alloc (.cells #[.int .i64 x,.int .i64 y] 3)=W at *;have f:(l.take i++([x,y]++l.drop i)).length=l.length+2:=by simp;omega
 have p:∀ j u,[Value.int .i64 x,.int .i64 y][j]?=some u->W.cell? ⟨w.heap.size,0+j,none⟩=some u:=fun j u d=>by
  rw[Nat.zero_add,cell_of_row W w.heap.size j _ _ _ H];simpa using d
 have C:∀ u ∈ [Value.int .i64 x,.int .i64 y],u.oneCell'=true:=fun u d=>by
  simp at d;rcases d with rfl | rfl <;> rfl
 have m:=Zk l;have Y:=Zmu l;have F:(Value.int .i64 0).cells.size=1:=rfl;have O:Zkp.t 3=3:=rfl;rcases ho.row with ⟨rfl,rfl⟩ | ⟨g,cap,cur,rfl,V,ab,hg,hn,M,L,hc⟩
 ·have ad:i=0:=by simpa using K
  subst ad;refine Calls.mono (Any2.slices_Insert_int_end_grow Znl none 0 0 w.heap.size 0 2 2 [] [.int .i64 x,.int .i64 y] W (by omega) (by omega) (by omega) (by omega) rfl rfl (fun _=>rfl) (fun a E=>by cases E) p C) ?_
  rintro e w' ⟨rfl,rfl⟩;rw[O];have J:=grownCap_ge W (0+2) 0 3;have q:=grownCap_le_maxLen W (0+2) 0 3 (by unfold maxLen;omega)
  refine⟨_,rfl,?_,D.drew.made _ _ _⟩;have e2:0+2=([x,y]:List Int).length:=rfl;show Qs _ B (.slice (some ⟨W.heap.size,0,none⟩) (0+2) (grownCap W (0+2) 0 3)) [x,y];generalize grownCap W (0+2) 0 3=A at *
  exact Qs.ofRow (by omega) (heap_alloc_new W.drew _) J q (by simp[size_zeroCells,F];omega) (fun j b=>by
   have aa:j=0∨j=1:=by simp at b;omega
   rcases aa with rfl | rfl <;> (rw[Array.getElem?_append_left (by simp)];rfl))
 ·have n:W.heap[g]?=some (.cells cur 3 (0,0)):=(ac g ab).trans hg
  have P:∀ j u,(Qr l)[j]?=some u->W.cell? ⟨g,0+j,none⟩=some u:=fun j u d=>by
   have b:j<l.length:=by rw[<-m];exact(List.getElem?_eq_some_iff.1 d).1
   rw[Nat.zero_add,cell_of_row W g j _ _ _ n,hc j b,<-Zu l j b,d]
  have X:∀ j,j<l.length->cur[j]?=(Qr l)[j]?:=fun j b=>by rw[hc j b,Zu l j b]
  have Z:cap<=9223372036854775807:=by unfold maxLen at M;omega
  by_cases T:l.length+2<=cap
  ·have S:∀ j,j<l.length+2->(W.cell? ⟨g,0+j,none⟩).isSome=true:=fun j b=>by
    rw[Nat.zero_add,cell_of_row W g j _ _ _ n,Array.getElem?_eq_getElem (by omega)]
    rfl
   have U:∀ j,j<l.length+2->W.frozen? ⟨g,0+j,none⟩=false:=fun j b=>frozen_of_row W g _ _ _ n
   by_cases R:i=l.length
   ·subst R
    refine Calls.mono (Any2.slices_Insert_int_end_room Znl g 0 l.length cap w.heap.size 0 2 2 [.int .i64 x,.int .i64 y] W (by omega) T Z rfl
     (fun j b=>by rw[Nat.add_assoc];exact S _ (by omega)) (fun j b=>by rw[Nat.add_assoc];exact U _ (by omega)) p C) ?_
    rintro e w' ⟨rfl,rfl⟩;refine⟨_,rfl,?_,D.cells _ _⟩;rw[<-f];refine Qs.ofRow V (Xy g _ _ _ _ cur n) (by omega) M (by rw[Xr];exact L) (fun j b=>?_)
    rw[Yq _ _ _ _ (by omega),ZeE l l.length zL x y j b,Nat.zero_add]
    rw[f] at b;by_cases c:j<l.length
    ·rw[if_neg (by omega),if_pos c,X j c]
    ·rw[if_pos (by simp;omega),if_neg c,if_pos (by omega)]
   ·refine Calls.mono (Any2.slices_Insert_int_shift Znl g 0 l.length cap i w.heap.size 0 2 2 (Qr l) [.int .i64 x,.int .i64 y] W (by omega) (by omega) T Z (by omega) m rfl P S U p Y C
     3 3 2 cap (by simp[World.shape?,H]) (by simp[World.shape?,n,L]) (by omega) (frozen_of_row W _ _ _ _ H) (frozen_of_row W _ _ _ _ H)) ?_
    rintro e w' ⟨rfl,rfl⟩;refine⟨_,rfl,?_,(Mv.cells (n':=0) (c':=0) D.drew _ _).cells _ _⟩;rw[<-f];refine Qs.ofRow V (Xy g _ _ _ _ _ (Xy g _ _ _ _ cur n)) (by omega) M (by rw[Xr,Xr];exact L) (fun j b=>?_)
    rw[Yq _ _ _ _ (by rw[Xr];omega),Yq _ _ _ _ (by omega),ZeE l i K x y j b,Nat.zero_add,Nat.zero_add]
    rw[f] at b;have Q:((Qr l).drop i).length=l.length-i:=by simp[Qr]
    rw[Q];by_cases c:j<i
    ·rw[if_neg (by omega),if_neg (by omega),if_pos c,X j (by omega)]
    ·by_cases z:j<i+2
     ·rw[if_pos (by simp;omega),if_neg c,if_pos z]
     ·rw[if_neg (by simp;omega),if_pos (by omega),if_neg c,if_neg z,List.getElem?_drop]
      congr 1
      omega
  ·by_cases R:i=l.length
   ·subst R
    refine Calls.mono (Any2.slices_Insert_int_end_grow Znl (some ⟨g,0,none⟩) l.length cap w.heap.size 0 2 2 (Qr l) [.int .i64 x,.int .i64 y] W (by omega) hn (by omega) (by omega) m rfl (fun h=>by cases h)
     (fun a E j u d=>by injection E with E;subst E;rw[Addr.add_lit];exact P j u d) p C) ?_
    rintro e w' ⟨rfl,rfl⟩;rw[O];have J:=grownCap_ge W (l.length+2) cap 3;have q:=grownCap_le_maxLen W (l.length+2) cap 3 (by unfold maxLen;omega)
    refine⟨_,rfl,?_,D.drew.made _ _ _⟩;show Qs _ B (.slice (some ⟨W.heap.size,0,none⟩) (l.length+2) (grownCap W (l.length+2) cap 3)) _;generalize grownCap W (l.length+2) cap 3=A at *;rw[<-f];refine Qs.ofRow (by omega) (heap_alloc_new W.drew _) (by omega) q (by simp[size_zeroCells,F,m];omega) (fun j b=>?_)
    rw[ZeE l l.length zL x y j b];rw[f] at b;rw[Array.getElem?_append_left (by simp[m];omega),List.getElem?_toArray]
    by_cases c:j<l.length
    ·rw[if_pos c,List.getElem?_append_left (by omega)]
    ·rw[if_neg c,if_pos (by omega),List.getElem?_append_right (by omega),m]
   ·refine Calls.mono (Any2.slices_Insert_int_grow Znl g 0 l.length cap i w.heap.size 0 2 2 (Qr l) [.int .i64 x,.int .i64 y] W (by omega) (by omega) hn (by omega) (by omega) m rfl P p Y C) ?_
    rintro e w' ⟨rfl,rfl⟩;rw[O];have J:=grownCap_ge W (l.length+2) cap 3;have q:=grownCap_le_maxLen W (l.length+2) cap 3 (by unfold maxLen;omega)
    refine⟨_,rfl,?_,((D.made _ 0 0).drew.cells (n':=0) (c':=0) _ _).drew.cells _ _⟩;show Qs _ B (.slice (some ⟨W.heap.size,0,none⟩) (l.length+2) (grownCap W (l.length+2) cap 3)) _;generalize grownCap W (l.length+2) cap 3=A at *;have G:((Qr l).take i).length=i:=by simp[m];omega
    have Q:((Qr l).drop i).length=l.length-i:=by simp[Qr]
    refine Qs.ofRowN f.symm (cur:=Zfm (Zfm (((Qr l).take i).toArray++Builtin.zeroCells (Value.int .i64 0).cells (l.length+2-i)++Builtin.zeroCells (Value.int .i64 0).cells (A-(l.length+2))) i [.int .i64 x,.int .i64 y]) (i+2) ((Qr l).drop i)) (by omega) (Xy _ _ _ _ _ _ (Xy _ _ _ _ _ _ (heap_alloc_new W _))) (by omega) q ?_ (fun j b=>?_)
    ·rw[Xr,Xr]
     simp[size_zeroCells,F,G];omega
    ·rw[ZeE l i K x y j b]
     rw[f] at b
     have ag:(((Qr l).take i).toArray++Builtin.zeroCells (Value.int .i64 0).cells (l.length+2-i)++Builtin.zeroCells (Value.int .i64 0).cells (A-(l.length+2))).size=A:=by
      simp[size_zeroCells,F,G];omega
     rw[Yq _ _ _ _ (by rw[Xr];omega),Yq _ _ _ _ (by omega),Q]
     by_cases c:j<i
     ·rw[if_neg (by omega),if_neg (by omega),if_pos c,Array.getElem?_append_left (by simp[size_zeroCells,F,G];omega),Array.getElem?_append_left (by simp[G];omega),List.getElem?_toArray,List.getElem?_take_of_lt c]
     ·by_cases z:j<i+2
      ·rw[if_neg (by omega),if_pos (by simp;omega),if_neg c,if_pos z]
      ·rw[if_pos (by omega),if_neg c,if_neg z,List.getElem?_drop]
       congr 1
       omega
theorem Xn.row (h:Xn w B v l):(v=.slice none 0 0∧l=[])∨
 ∃ g cap cur,v=.slice (some ⟨g,0,none⟩) l.length cap∧B<=g∧g<w.heap.size∧w.heap[g]?=some (.cells cur 85 (0,0))∧l.length<=cap∧cap<=maxLen∧cur.size=cap*3∧∀ j,j<l.length*3->cur[j]?=(Qg l)[j]?:=by
 rcases h.2 with ⟨a,k⟩ | ⟨g,cap,cur,a,f,b,d,c,i,m⟩
 ·have e:l=[]:=eq_nil_of_length_eq_zero k
  subst e;exact .inl ⟨a,rfl⟩
 ·refine .inr ⟨g,cap,cur,a,f,(Array.getElem?_eq_some_iff.1 b).1,b,d,c,i,fun j n=>?_⟩
  rw[<-m,List.getElem?_take_of_lt n,Array.getElem?_toList]
theorem Xn.ofRow (c:n=l.length) (e:B<=g) (b:w.heap[g]?=some (.cells cur 85 (0,0))) (i:l.length<=cap) (h:cap<=maxLen) (f:cur.size=cap*3) (d:∀ j,j<l.length*3->cur[j]?=(Qg l)[j]?):
 Xn w B (.slice (some ⟨g,0,none⟩) n cap) l:=by
 subst c;refine⟨by rw[Xh],.inr ⟨g,cap,cur,rfl,e,b,i,h,f,?_⟩⟩
 apply List.ext_getElem?;intro j;by_cases a:j<l.length*3
 ·rw[List.getElem?_take_of_lt a,Array.getElem?_toList]
  exact d j a
 ·rw[List.getElem?_eq_none (by simp;omega),List.getElem?_eq_none (by rw[Xh];omega)]
theorem Xn.empty (w:World) (B:Nat) (a:B<=w.heap.size):Xn (w.alloc (.cells #[] 85)) B (.slice (some ⟨w.heap.size,0,none⟩) 0 0) []:=
 Xn.ofRow (l:=[]) rfl a (heap_alloc_new w _) zL (Nat.zero_le _) rfl (fun j b=>absurd b (by simp))
theorem Zcf:∀ (l:List Ent) (i:Nat),Qg (l.take i)=(Qg l).take (i*3)
 | l,0=>by simp[Qg]
 | [],i+1=>by simp[Qg]
 | x::t,i+1=>by
  rw[List.take_succ_cons,show(i+1)*3=i*3+1+1+1 by omega]
  show Value.int .i64 x.proc::.int .i64 x.seq::.int .i64 x.resp::Qg (t.take i)=(Value.int .i64 x.proc::.int .i64 x.seq::.int .i64 x.resp::Qg t).take (i*3+1+1+1);rw[Zcf t i];rfl
theorem Zcg:∀ (l:List Ent) (i:Nat),Qg (l.drop i)=(Qg l).drop (i*3)
 | l,0=>by simp
 | [],i+1=>by simp[Qg]
 | x::t,i+1=>by
  rw[List.drop_succ_cons,show(i+1)*3=i*3+1+1+1 by omega]
  show Qg (t.drop i)=(Value.int .i64 x.proc::.int .i64 x.seq::.int .i64 x.resp::Qg t).drop (i*3+1+1+1);rw[Zcg t i];rfl
theorem Xn.cut (h:Xn w B (.slice (some ⟨g,0,none⟩) n cap) l) (i:Nat) (m:i<=l.length):Xn w B (.slice (some ⟨g,0,none⟩) i cap) (l.take i):=by
 rcases h.row with ⟨a,-⟩ | ⟨g',p,cur,a,d,q,e,t,c,b,f⟩
 ·cases a
 ·injection a with a h2 h3
  injection a with a
  injection a with a
  subst a h3
  exact Xn.ofRow (by rw[length_take];omega) d e (by rw[length_take];omega) c b (fun j k=>by
   rw[length_take] at k
   rw[f j (by omega),Zcf,List.getElem?_take_of_lt (by omega)])
theorem Xn.cells (h:Xn w B (.slice (some ⟨g,0,none⟩) n cap) l) (o:Nat) (q:l.length*3<=o) (vs:List Value):Xn (w.setCells g o vs) B (.slice (some ⟨g,0,none⟩) n cap) l:=by
 rcases h.row with ⟨a,-⟩ | ⟨g',m,cur,a,d,p,e,k,c,b,f⟩
 ·cases a
 ·injection a with a h2 h3
  injection a with a
  injection a with a
  subst a h3
  exact Xn.ofRow h2 d (Xy g _ vs o w cur e) k c (by rw[Xr];exact b) (fun j i=>by
   rw[Yq _ _ _ _ (by omega),if_neg (by omega)]
   exact f j i)
theorem Xn.put (h:Xn w B (.slice (some ⟨g,0,none⟩) n cap) l) (i:Nat) (d:i<l.length) (e:Ent):Xn (w.setCells g (i*3) (Qg [e])) B (.slice (some ⟨g,0,none⟩) n cap) (l.set i e):=by
 rcases h.row with ⟨a,-⟩ | ⟨g',z,cur,a,p,A,t,y,m,f,u⟩
 ·cases a
 ·injection a with a h2 h3
  injection a with a
  injection a with a
  subst a h3;have v:(Qg [e]).length=3:=Xh [e];refine Xn.ofRow (by rw[length_set];exact h2) p (Xy g _ _ _ w cur t) (by rw[length_set];exact y) m (by rw[Xr];exact f) (fun j x=>?_)
  rw[length_set] at x;obtain⟨q,k,b,rfl⟩:∃ q k,k<3∧j=q*3+k:=⟨j / 3,j % 3,Nat.mod_lt _ (by decide),by omega⟩
  rw[Yq _ _ _ _ (by omega),v,Zv (l.set i e) q k (by rw[length_set];omega) b]
  by_cases c:q=i
  ·subst c
   rw[if_pos (by omega),show q*3+k-q*3=0*3+k by omega,Zv [e] 0 k (by simp) b]
   congr 2
   simp[List.getD,d]
  ·rw[if_neg (by omega),u _ (by omega),Zv l q k (by omega) b]
   congr 2
   have:¬ i=q:=fun h=>c h.symm
   simp[List.getD,this]
theorem RdE.cells {a:Addr} (h:RdE w (.slice (some a) n cap) l):∀ j u,(Qg l)[j]?=some u->w.cell? (a.add j)=some u:=by
 obtain⟨ao,c,f,z,A,C,y,e⟩:=h
 injection f with f _ _
 subst f;intro j u d;have m:j<l.length*3:=by rw[<-Xh];exact(List.getElem?_eq_some_iff.1 d).1
 rcases e with e | ⟨b,B,g,x⟩
 ·rw[e] at m
  simp at m
 ·injection g with g
  subst g;obtain⟨q,k,i,rfl⟩:∃ q k,k<3∧j=q*3+k:=⟨j / 3,j % 3,Nat.mod_lt _ (by decide),by omega⟩
  rw[Zv l q k (by omega) i] at d
  obtain⟨p,t,v⟩:=x q (by omega)
  rw[Addr.add_lit,<-Nat.add_assoc]
  match k,i with
  | 0,_=>exact p.trans d
  | 1,_=>exact t.trans d
  | 2,_=>exact v.trans d
theorem Zid (w:World) (ty:TypeId) (B:Nat) (v:Value) (l:List Ent) (h:Xn w B v l) (g:Value) (m:List Ent) (d:RdE w g m) (E:l.length+m.length<=1000000) (f:B<=w.heap.size):
 ∃ v' w',(Builtin.append_ #[39,39] ty #[v,g]).run prog w=.ok v' w'∧Xn w' B v' (l++m)∧Below B w w':=by
 obtain⟨c,e,x,t,p⟩:=info_parts ZgV;have j:=d;obtain⟨ao,cap,rfl,C,D,q,A,F⟩:=d
 cases ao with
 | none=>
  have z:=q rfl;subst z;have n:m=[]:=eq_nil_of_length_eq_zero (by omega)
  subst n;have b:=run_append_owned_none (P:=prog) w B 39 ty 85 c 3 underlying39 e v l.length (Qg l) h;exact⟨v,w,b,by rw[append_nil];exact h,Below.refl _ _⟩
 | some a=>
  obtain⟨v',w',b,y,u,_⟩:=run_append_own (P:=prog) w B 39 ty 85 c _ 3 24 underlying39 e x t p rfl (by decide) v l.length (Qg l) h
   a m.length cap (Qg m) (Xh m) j.cells (Zac m) (by unfold maxLen;omega) (by omega) f
  refine⟨v',w',b,?_,?_⟩
  ·unfold Xn
   rw[length_append,Zaz];exact y
  ·exact(Below.refl _ _).grown u f (fun k i=>(World.ownsRow.lt h k i).1)
theorem Zal (w:World) {c:Array Oper} {rest:List Oper} {o:Oper} {a:Act} {Q:Exit->Act->World->Prop} (p:o.guard=none) (s x:Operand)
 (u:o.op=.call { callee:=.builtin .append,args:=#[s,x],argTypes:=#[39,39] })
 (B:Nat) (v:Value) (l:List Ent) (g:a.eval s=v) (i:Xn w B v l) (b:Value) (m:List Ent) (d:a.eval x=b) (f:RdE w b m)
 (j:l.length+m.length<=1000000) (t:B<=w.heap.size)
 (h:∀ v' w',Xn w' B v' (l++m)->Below B w w'->wpList prog c Q rest (a.put o.dst v') w'):wpList prog c Q (o::rest) a w:=
 wpList_plain p fun _ e=>by
  obtain⟨v',w',q,k,n⟩:=Zid w o.type B v l i b m f j t;unfold Oper.wp execOp;simp only [u,resolve,invoke,builtin,Sem.run_bind,Sem.run_pure,Result.andThen_ok,List.map_toArray,map_cons,map_nil,g,d,q];exact e _ _ (h v' w' k n)
theorem ZfJ (v:Value) (l:List Ent) (w:World) (c:RdE w v l) (q:l.length<=1000000):
 Calls prog 40 #[v] w fun e w'=>∃ v',e=.returned v'∧Xn w' w.heap.size v' l∧Below w.heap.size w w':=by
 have m:=ZZ c;obtain⟨ao,cap,rfl,h,-,b,-⟩:=c
 cases ao with
 | none=>
  obtain rfl:cap=0:=b rfl;obtain rfl:l=[]:=eq_nil_of_length_eq_zero (by omega)
  clear b h;have k:∀ w,(binOp .eql 39 (.slice none 0 0) (.slice none 0 0)).run prog w=.ok (.bool true) w:=fun w=>run_eql_slice_nil w _ _ none 0 0 underlying39
  go_enter func40,ntmps40
  go_wp2;go_ret;exact⟨_,rfl,Xn.nil _ _,Below.refl _ _⟩
 | some a=>
  clear b;have k:∀ w,(binOp .eql 39 (.slice (some a) l.length cap) (.slice none 0 0)).run prog w=.ok (.bool false) w:=fun w=>run_eql_slice_nil w _ _ (some a) _ _ underlying39
  have g:Hid (∀ X,Below w.heap.size w (w.alloc X)):=fun X=>(Below.refl _ _).alloc zL X
  have j:Hid (Xn (w.alloc (.cells #[] 85)) w.heap.size (.slice (some ⟨w.heap.size,0,none⟩) 0 0) []):=ZZ (Xn.empty w _ zL)
  go_enter func40,ntmps40
  go_wp2_with(at_builtin;refine Zal _ rfl _ _ rfl w.heap.size _ [] rfl j.o _ l rfl (m.o.below (g.o _) zL) (by simp;omega) (by simp) ?_)
  intro t p d f;have n:=ZZ d;have i:=ZZ ((g.o _).trans f);clear d f;go_wp2;go_ret;exact⟨_,rfl,n.o,i.o⟩
def Zyj (p:Ent->Bool) (l:List Ent) (k:Int):Prop:=(k=-1∧∀ j,j<l.length->p (l.getD j Xi)=false)∨∃ i:Nat,k=(i:Int)∧i<l.length∧(∀ j,j<i->p (l.getD j Xi)=false)∧p (l.getD i Xi)=true
theorem Zdt (g R:Nat) (p:Ent->Bool) (v:Value) (l:List Ent) (w:World) (B:RdE w v l)
 (V:∀ args W,(callFunc g args).run prog W=.ok (.enter g args) W)
 (K:∀ W e,Below w.heap.size w W->Calls prog g #[Zsj e,.pointer (some ⟨R,0,none⟩)] W fun x w'=>x=.returned (.bool (p e))∧Below W.heap.size W w'):
 Calls prog 87 #[v,.func (.func g) #[] #[.pointer (some ⟨R,0,none⟩)]] w fun x w'=>∃ k:Int,x=.returned (.int .i64 k)∧Zyj p l k∧Below w.heap.size w w':=by
 have N:=ZZ B;have H:=ZZ K;obtain⟨Q,vc,rfl,M,E,-,-,F⟩:=B;have I:=ZZ F;have ab:(l.length:Int)<=9223372036854775807:=by unfold maxLen at E;omega
 clear K M E F
 go_enter func87,ntmps87
 go_wp2
 go_loopw[8] (fun m wr=>∃ q:Nat,m=.int .i64 (q:Int)∧q<=l.length∧Hid (∀ j,j<q->p (l.getD j Xi)=false)∧Hid (Below w.heap.size w wr)) (fun m _=>l.length-(intOf m).toNat)
 case atStart=>exact⟨0,rfl,Nat.zero_le _,ZZ (fun j f=>absurd f (Nat.not_lt_zero _)),Below.refl _ _⟩
 case round=>
  obtain⟨q,rfl,Y,u,c⟩:=hrel;by_cases d:q<l.length
  case neg=>
   obtain rfl:q=l.length:=by omega
   go_wp2;go_ret;exact⟨-1,rfl,.inl ⟨rfl,u.out⟩,c.out⟩
  have Z:(q:Int)<(l.length:Int):=by omega
  rcases I.o with P | ⟨b,aa,rfl,y⟩
  ·rw[P] at d;simp at d
  obtain⟨A,z,D⟩:=(y q d).keep (c.out.block b (y q d).lt);have a:=ZZ (H.o wr (l.getD q Xi) c.out);have O:Hid (∀ j,j<q+1->j=q∨j<q):=ZZ (fun j f=>by omega)
  obtain⟨e,i⟩:∃ e,e=l.getD q Xi:=⟨_,rfl⟩;rw[<-i] at a A z D;have L:=ZZ i;obtain⟨t,n⟩:∃ t,t=p e:=⟨_,rfl⟩;rw[<-n] at a;have J:=ZZ n;clear i y H I N n;unfold Zsj at a;obtain⟨T,X,S⟩:=e;simp only at a A z D
  go_wp2_with fail
  refine a.o.mono ?_;rintro x U ⟨rfl,G⟩;have C:=ZZ (c.out.trans (G.mono c.out.size));clear G a
  cases t with
  | true=>
   go_wp2;go_ret;exact⟨(q:Int),rfl,.inr ⟨q,rfl,d,u.out,by rw[<-L.o];exact J.o.symm⟩,C.o⟩
  | false=>
   go_wp2;go_roundw
   case rel=>exact⟨q+1,by go_num,by omega,ZZ (fun j f=>by
    rcases O.o j f with h | h
    ·rw[h,<-L.o];exact J.o.symm
    ·exact u.out j h),C⟩
   case measure=>simp[intOf];omega
theorem ZdQ (p:Ent->Bool) (l:List Ent) (j:Nat) (a:j<l.length):(l.take (j+1)).filter (fun e=>!p e)=(l.take j).filter (fun e=>!p e)++if p (l.getD j Xi)=true then[] else[l.getD j Xi]:=by
 have b:l.take (j+1)=l.take j++[l.getD j Xi]:=by
  rw[List.take_add_one,List.getElem?_eq_getElem a];simp[List.getD,a]
 rw[b,List.filter_append]
 congr 1
 generalize l.getD j Xi=x
 cases h:p x <;> simp[h]
theorem Zie (p:Ent->Bool) (l:List Ent) (i:Nat) (c:i<=l.length) (h:∀ j,j<i->p (l.getD j Xi)=false):(l.take i).filter (fun e=>!p e)=l.take i:=by
 rw[List.filter_eq_self];intro e b;obtain⟨j,a,rfl⟩:=List.getElem_of_mem b;rw[length_take] at a;have:=h j (by omega)
 rw[List.getElem_take];simp only [List.getD,List.getElem?_eq_getElem (show j<l.length by omega),Option.getD_some] at this
 simp[this]
def ZgF (p:Ent->Bool) (l L:List Ent) (i j:Nat):Prop:=L.length=l.length∧L.take i=(l.take j).filter (fun e=>!p e)∧L.drop j=l.drop j∧i<j
theorem ZgF.start (a:i<l.length) (h:∀ j,j<i->p (l.getD j Xi)=false) (b:p (l.getD i Xi)=true):ZgF p l l i (i+1):=by
 refine⟨rfl,?_,rfl,Nat.lt_succ_self _⟩;rw[ZdQ p l i a,if_pos b,append_nil,Zie p l i (by omega) h]
theorem ZgF.at (h:ZgF p l L i j):L.getD j Xi=l.getD j Xi:=by
 obtain⟨f,d,a,e⟩:=h;have c:(L.drop j).getD 0 Xi=L.getD j Xi:=by simp[List.getD]
 have b:(l.drop j).getD 0 Xi=l.getD j Xi:=by simp[List.getD]
 rw[<-c,<-b,a]
theorem Znm (h:L.drop j=l.drop j):L.drop (j+1)=l.drop (j+1):=by
 rw[<-drop_drop,<-drop_drop,h]
theorem ZgF.skip (h:ZgF p l L i j) (d:j<l.length) (c:p (l.getD j Xi)=true):ZgF p l L i (j+1):=by
 obtain⟨e,a,b,f⟩:=h;refine⟨e,?_,Znm b,by omega⟩
 rw[ZdQ p l j d,if_pos c,append_nil,a]
theorem ZgF.keep (h:ZgF p l L i j) (d:j<l.length) (c:p (l.getD j Xi)=false):ZgF p l (L.set i (l.getD j Xi)) (i+1) (j+1):=by
 obtain⟨e,a,b,f⟩:=h;refine⟨by rw[length_set,e],?_,?_,by omega⟩
 ·rw[ZdQ p l j d,if_neg (by rw[c];simp),<-a,List.take_add_one,List.take_set_of_le zL]
  congr 1
  rw[List.getElem?_set_self (by omega)]
  rfl
 ·rw[List.drop_set_of_lt (by omega)]
  exact Znm b
theorem Xn.put3 (h:Xn w B (.slice (some ⟨g,0,none⟩) n cap) l) (i:Nat) (e:i<l.length) (p s r:Int) (b c a:Nat) (j:b=i*3) (f:c=i*3+1) (d:a=i*3+2):
 Xn (((w.setCell ⟨g,b,none⟩ (.int .i64 p)).setCell ⟨g,c,none⟩ (.int .i64 s)).setCell ⟨g,a,none⟩ (.int .i64 r)) B (.slice (some ⟨g,0,none⟩) n cap) (l.set i ⟨p,s,r⟩):=by
 subst j f d;exact h.put i e ⟨p,s,r⟩
theorem Xn.ent (h:Xn w B (.slice (some ⟨g,0,none⟩) n cap) l) (i:Nat) (e:i<l.length):Znf w g (i*3) (l.getD i Xi)∧(∀ k,w.frozen? ⟨g,k,none⟩=false)∧B<=g∧l.length<=cap∧cap<=maxLen∧n=l.length:=by
 rcases h.row with ⟨a,-⟩ | ⟨g',q,cur,a,j,u,c,p,f,t,m⟩
 ·cases a
 ·injection a with a h2 h3
  injection a with a
  injection a with a
  subst a h3
  have b:∀ k,k<3->w.cell? ⟨g,i*3+k,none⟩=(Gq (l.getD i Xi))[k]?:=fun k d=>by
   rw[cell_of_row w g (i*3+k) _ _ _ c,m _ (by omega),Zv l i k e d]
  exact⟨⟨b 0 (by decide),b 1 (by decide),b 2 (by decide)⟩,fun k=>frozen_of_row w g k _ _ c,j,p,f,h2⟩
theorem Zpi {C:Nat} {b:World} (h:Below C b w) (R:Nat) (a:C<=R) (i c g:Nat) (f e d:Value):Below C b (((w.setCell ⟨R,i,none⟩ f).setCell ⟨R,c,none⟩ e).setCell ⟨R,g,none⟩ d):=
 ((h.setCell a _).setCell a _).setCell a _
theorem ZlA (w:World):(zeroValue 85).run prog w=.ok (.agg #[.int .i64 0,.int .i64 0,.int .i64 0]) w:=Tryz.zeroValue85 w
theorem Zif (g R:Nat) (p:Ent->Bool) (v:Value) (l:List Ent) (B:Nat) (w:World) (D:Xn w B v l) (hI:∀ e ∈ l,Zlx e) (V:B<=w.heap.size) (au:l.length<=1000000)
 (eg:∀ args W,(callFunc g args).run prog W=.ok (.enter g args) W)
 (K:∀ W e,Below B w W->Calls prog g #[Zsj e,.pointer (some ⟨R,0,none⟩)] W fun x w'=>x=.returned (.bool (p e))∧Below W.heap.size W w'):
 Calls prog 86 #[v,.func (.func g) #[] #[.pointer (some ⟨R,0,none⟩)]] w fun x w'=>∃ v',x=.returned v'∧Xn w' B v' (l.filter (fun e=>!p e))∧Below B w w':=by
 have HO:=ZZ D;have HP:=ZZ K;have aa:=ZZ (Zdt g R p v l w (D.rd hI) eg (fun W e h=>K W e (h.mono V)))
 obtain⟨va,b,hv⟩:=D.shape;subst hv;clear D K
 go_enter func86,ntmps86
 go_wp2_with fail
 refine aa.o.mono ?_;rintro x W0 ⟨k,rfl,a,T⟩;have I:=ZZ (T.mono V);have G:=ZZ (HO.o.below T zL);clear aa T HO;rcases a with ⟨rfl,a⟩ | ⟨U,rfl,Q,a,ah⟩
 ·have HE:Hid (l.filter (fun e=>!p e)=l):=ZZ (by
   have:=Zie p l l.length zL a
   rwa [take_length] at this)
  clear a;go_wp2;go_ret;exact⟨_,rfl,by rw[HE.o];exact G.o,I.o⟩
 have af:=ZZ (ZgF.start Q a ah);clear a ah;rcases G.o.row with ⟨-,h2⟩ | ⟨n,cap,cur,N,ad,-,-,ax,ai,-,-⟩
 ·rw[h2] at Q;simp at Q
 injection N with N _ h3
 subst N h3;have aq:(l.length:Int)<=1000000:=by omega
 clear cur ai;have ei:((U:Int) == -1)=false:=beq_eq_false_iff_ne.2 (by omega)
 go_wp2
 go_loopw[5,6] (fun v5 P wr=>∃ (i j:Nat) (L:List Ent),v5=.int .i64 (i:Int)∧P=.int .i64 (j:Int)∧i<j∧j<=l.length∧Hid (Xn wr B (.slice (some ⟨n,0,none⟩) l.length b) L)∧Hid (ZgF p l L i j)∧Hid (Below B w wr)) (fun _ P _=>l.length-(intOf P).toNat)
 case atStart=>exact⟨U,U+1,l,rfl,by go_num,by omega,by omega,G,af,I⟩
 case round=>
  clear G af I ei;obtain⟨i,j,L,rfl,rfl,al,ay,f,c,y⟩:=hrel;by_cases ac:j<l.length
  case neg=>
   obtain rfl:j=l.length:=by omega
   have hL:L.length=l.length:=c.out.1;have HT:Hid (L.take i=l.filter (fun e=>!p e)):=ZZ (by rw[c.out.2.1,take_length])
   have hE:=(f.out.ent i (by omega)).2.1
   have HK:Hid (∀ ty,(Builtin.clear_ #[39] ty #[.slice (some ⟨n,i*3,none⟩) (l.length-i) (b-i)]).run prog wr=.ok (.tuple #[]) (wr.setCells n (i*3) (Zbu (l.length-i)))):=ZZ (fun ty=>
    Zia wr _ _ _ underlying39 ZlA n (i*3) (l.length-i) (b-i) (by omega) (fun k hk=>by
     obtain⟨q,r,hr,rfl⟩:∃ q r,r<3∧k=q*3+r:=⟨k / 3,k % 3,Nat.mod_lt _ (by decide),by omega⟩
     have:=(f.out.ent (i+q) (by omega)).1
     rw[show i*3+(q*3+r)=(i+q)*3+r by omega]
     match r,hr with
     | 0,_=>rw[show(i+q)*3+0=(i+q)*3 from rfl,this.1];rfl
     | 1,_=>rw[this.2.1];rfl
     | 2,_=>rw[this.2.2];rfl) (fun k _=>hE _))
   have ae:=ZZ ((f.out.cut i (by omega)).cells (i*3) (by rw[length_take];omega) (Zbu (l.length-i)))
   rw[HT.o] at ae;have aj:=ZZ (Gy ad (Zbu (l.length-i)) (i*3) wr y.out);have ap:¬ (b=i):=by omega
   have u:(i:Int)<=(l.length:Int):=by omega
   have ak:(i:Int)<=(b:Int):=by omega
   have ar:i<=l.length:=by omega
   have aw:i<=b:=by omega
   clear hE;have hK:=HK.o;go_wp2;go_ret;exact⟨_,rfl,ae.o,aj.o⟩
  have av:(j:Int)<(l.length:Int):=by omega
  have am:L.length=l.length:=c.out.1;obtain⟨⟨F,E,A⟩,-,-⟩:=f.out.ent j (by omega)
  rw[c.out.at] at F E A;have J:=ZZ (c.out.skip ac);have H:=ZZ (c.out.keep ac);obtain⟨e,he⟩:∃ e,e=l.getD j Xi:=⟨_,rfl⟩;rw[<-he] at F E A J H;obtain⟨O,ag⟩:∃ O,O=p e:=⟨_,rfl⟩;have z:=ZZ (fun W h=>HP.o W e h)
  rw[<-ag] at z J H;obtain⟨t,m,d⟩:=e;unfold Zsj at z;simp only at z F E A H;clear he ag c;have M:Hid (∀ X,Below B w (wr.alloc X)):=ZZ (fun X=>y.out.alloc (Nat.le_trans V y.out.size) X)
  have HX:Hid (Be (wr.alloc (.cells #[.int .i64 t,.int .i64 m,.int .i64 d] 85)) wr.heap.size #[.int .i64 t,.int .i64 m,.int .i64 d]):=ZZ (heap_alloc_new wr _);have Z:Hid (∀ X,Xn (wr.alloc X) B (.slice (some ⟨n,0,none⟩) l.length b) L):=ZZ (fun X=>f.out.below ((Below.refl _ _).alloc zL X) zL)
  go_wp2_with fail
  refine(z.o _ (M.o _)).mono ?_;rintro x W1 ⟨rfl,u⟩;have ab:=ZZ ((M.o (.cells #[.int .i64 t,.int .i64 m,.int .i64 d] 85)).trans (u.mono (by have:=y.out.size;simp;omega)))
  have Y:=ZZ (HX.o.below u zL);have S:=ZZ ((Z.o (.cells #[.int .i64 t,.int .i64 m,.int .i64 d] 85)).below u zL);clear u z M HX Z F E A f y
  cases O with
  | true=>
   go_wp2;go_roundw
   case rel=>exact⟨i,j+1,L,rfl,by go_num,by omega,by omega,S,ZZ (J.o (by simp)),ab⟩
   case measure=>simp[intOf];omega
  | false=>
   obtain⟨⟨d0,d1,d2⟩,C,an,-⟩:=S.o.ent i (by omega)
   obtain⟨b0,f0⟩:=Y.o.cell 0;obtain⟨b1,f1⟩:=Y.o.cell 1;obtain⟨b2,f2⟩:=Y.o.cell 2;have z0:=C (i*3);have z1:=C (i*3+1);have z2:=C (i*3+2);have az:(i:Int)<(l.length:Int):=by omega
   have ao:i<l.length:=by omega
   clear C;go_wp2;go_roundw
   case rel=>exact⟨i+1,j+1,L.set i ⟨t,m,d⟩,by go_num,by go_num,by omega,by omega,ZZ (S.o.put3 i (by omega) t m d _ _ _ (by omega) (by omega) (by omega)),ZZ (H.o (by simp)),ZZ (Zpi ab.o n ad _ _ _ _ _ _)⟩
   case measure=>simp[intOf];omega
theorem RdE.one (w:World) (e:Ent) (c:Zlx e):RdE (w.alloc (.cells (Gq e) 85)) (.slice (some ⟨w.heap.size,0,none⟩) 1 1) [e]:=by
 have h:=Xn.ofRow (w:=w.alloc (.cells (Gq e) 85)) (B:=w.heap.size) (g:=w.heap.size) (cap:=1) (l:=[e]) (n:=1) rfl zL (heap_alloc_new w _) zL (by unfold maxLen;decide) rfl (fun j a=>by
  rw[List.length_singleton] at a
  match j,a with
  | 0,_=>rfl
  | 1,_=>rfl
  | 2,_=>rfl)
 exact h.rd (fun x b=>by rw[List.mem_singleton.1 b];exact c)
theorem Zkr (l:List Ent) (i:Nat) (n:i<=l.length) (e:Ent) (f:Nat->Option Value) (g:∀ j,j<i*3->f j=(Qg l)[j]?) (c:∀ j,j<3->f (i*3+j)=(Qg [e])[j]?)
 (d:∀ j,j<(l.length-i)*3->f ((i+1)*3+j)=(Qg (l.drop i))[j]?) (j:Nat) (p:j<(l.length+1)*3):f j=(Qg (l.take i++(e::l.drop i)))[j]?:=by
 have h:l.take i++(e::l.drop i)=l.take i++([e]++l.drop i):=rfl;have b:(Qg (l.take i)).length=i*3:=by rw[Xh,length_take];congr 1;omega
 have k:(Qg [e]).length=3:=Xh [e];rw[h,Zaz,Zaz];by_cases a:j<i*3
 ·rw[List.getElem?_append_left (by omega),g j a,Zcf,List.getElem?_take_of_lt a]
 ·rw[List.getElem?_append_right (by omega),b]
  by_cases m:j<i*3+3
  ·rw[List.getElem?_append_left (by omega),<-c (j-i*3) (by omega)]
   congr 1
   omega
  ·rw[List.getElem?_append_right (by omega),k,<-d (j-i*3-3) (by omega)]
   congr 1
   omega
theorem ZaZ (l:List Ent) (i:Nat) (a:i<=l.length) (e:Ent):(l.take i++(e::l.drop i)).length=l.length+1:=by simp;omega
def Zzs (w:World) (B:Nat) (L:List Ent) (x:Ending) (w':World):Prop:=∃ v',x=.returned v'∧Xn w' B v' L∧Below B w w'
theorem Zpj (v:Value) (l:List Ent) (B:Nat) (w:World) (c:Xn w B v l) (u:B<=w.heap.size) (E:l.length<=100000) (e:Ent) (p:Zlx e) (I:Int) (A:I=(l.length:Nat)) (N:Nat) (z:N=w.heap.size):
 Calls prog 88 #[v,.int .i64 I,.slice (some ⟨N,0,none⟩) 1 1] (w.alloc (.cells (Gq e) 85)) fun x w'=>Zzs w B (l.take l.length++(e::l.drop l.length)) x w':=by
 subst A z;have h:Hid (l.take l.length++(e::l.drop l.length)=l++[e]):=ZZ (by rw[take_length,List.drop_length])
 rw[h.o];have k:=ZZ (RdE.one w e p);have m:Hid (∀ X,Below B w (w.alloc X)):=fun X=>(Below.refl _ _).alloc u X
 have n:=ZZ (c.below ((Below.refl w.heap.size w).alloc zL (.cells (Gq e) 85)) zL);have i:B<=(w.alloc (.cells (Gq e) 85)).heap.size:=by simp;omega
 rcases c.row with ⟨rfl,rfl⟩ | ⟨g,cap,cur,rfl,F,G,y,K,j,t,D⟩
 ·clear c h
  go_enter func88,ntmps88
  go_wp2_with(at_builtin;refine Zal _ rfl _ _ rfl B _ [] rfl n.o _ [e] rfl k.o (by simp) i ?_)
  intro C q a b;have f:=ZZ a;have d:=ZZ ((m.o _).trans b);clear a b;go_wp2;go_ret;exact⟨_,rfl,f.o,d.o⟩
 ·have J:(cap:Int)<=9223372036854775807:=by unfold maxLen at j;omega
  have L:(l.length:Int)<=(cap:Int):=by omega
  clear c h D y t j;by_cases H:cap=l.length
  all_goals
   go_enter func88,ntmps88
   go_wp2_with(at_builtin;refine Zal _ rfl _ _ rfl B _ l rfl n.o _ [e] rfl k.o (by simp;omega) i ?_)
   intro C q a b;have f:=ZZ a;have d:=ZZ ((m.o _).trans b);clear a b;go_wp2;go_ret;exact⟨_,rfl,f.o,d.o⟩
theorem ZzE (w:World) (g N a b:Nat) (m:N≠g) (f i d h o:Nat) (n:w.shape? N=some (85,a)) (j:w.shape? g=some (85,b)) (l:b≠0) (c:∀ k,w.frozen? ⟨N,k,none⟩=false):
 (callFunc 129 #[.slice (some ⟨N,0,none⟩) f i,.slice (some ⟨g,o,none⟩) d h]).run prog w=.ok (.value (.bool false)) w:=by
 rw[run_callFunc_extern func129 (by kernel_rfl) (by kernel_rfl) (by kernel_rfl) (e:=Extern.SlicesOverlaps.overlaps #[39,39] #[4]) (by kernel_rfl),
  Lib.run_overlaps_apart w 39 4 85 underlying39 3 Tryz.sizeOf85 ⟨N,0,none⟩ ⟨g,o,none⟩ f i d h m _ _ a b n j l (c 0) (c a)]
 rfl
theorem ZgW:(prog.info? 85).map (·.size)=some 3:=by
 obtain⟨d,a,c,b,e⟩:=info_parts ZgV;rw[a];simp[b]
theorem Znn (g cap:Nat) (l:List Ent) (B:Nat) (w:World) (P:Xn w B (.slice (some ⟨g,0,none⟩) l.length cap) l) (hB:B<=w.heap.size) (i:Nat) (hi:i<l.length) (aa:l.length+1<=cap) (e:Ent) (I:Int) (hI:I=(i:Nat)) (N:Nat) (Q:N=w.heap.size):
 Calls prog 88 #[.slice (some ⟨g,0,none⟩) l.length cap,.int .i64 I,.slice (some ⟨N,0,none⟩) 1 1] (w.alloc (.cells (Gq e) 85)) fun x w'=>Zzs w B (l.take i++(e::l.drop i)) x w':=by
 subst hI;rcases P.row with ⟨d,-⟩ | ⟨g',ao,cur,d,A,ab,M,hn,E,q,D⟩
 ·cases d
 injection d with d _ h3
 injection d with d
 injection d with d
 subst d h3;clear P;have n:(w.alloc (.cells (Gq e) 85)).heap[N]?=some (.cells (Gq e) 85 (0,0)):=by rw[Q];exact heap_alloc_new w _
 have f:(w.alloc (.cells (Gq e) 85)).heap[g]?=some (.cells cur 85 (0,0)):=(Below.heap_alloc _ _ _ ab).trans M;have O:Hid (Below B w (w.alloc (.cells (Gq e) 85))):=(Below.refl _ _).alloc hB _;generalize w.alloc (.cells (Gq e) 85)=W at *;have X:N≠g:=by omega
 have av:(cap:Int)<=9223372036854775807:=by unfold maxLen at E;omega
 have J:∀ (j:Nat),W.frozen? ⟨g,j,none⟩=false:=fun j=>frozen_of_row W g j _ _ f
 have ac:∀ C z F t o,(callFunc 129 #[.slice (some ⟨N,0,none⟩) C z,.slice (some ⟨g,o,none⟩) F t]).run prog W=.ok (.value (.bool false)) W:=fun C z F t o=>
  ZzE W g N 3 (cap*3) X C z F t o (by simp[World.shape?,n,Gq]) (by simp[World.shape?,f,q]) (by omega) (fun k=>frozen_of_row W N k _ _ n)
 have G:(Qg (l.drop i)).length=(l.length-i)*3:=by rw[Xh,length_drop]
 have H:∀ j,j<(l.length+1)*3->(W.cell? ⟨g,j,none⟩).isSome=true:=fun j a=>by
  rw[cell_of_row W g j _ _ _ f,Array.getElem?_eq_getElem (by omega)]
  rfl
 have V:∀ W',(∀ x,W'.cell? x=W.cell? x)->(∀ x,W'.frozen? x=W.frozen? x)->∀ ty c sc,(Builtin.copy_ #[39,39] ty #[.slice (some ⟨g,(i+1)*3,none⟩) (l.length-i) c,.slice (some ⟨g,i*3,none⟩) (l.length+1-i) sc]).run prog W'=.ok (goInt (Nat.min (l.length+1-i) (l.length-i))) (W'.setCells g ((i+1)*3) (Qg (l.drop i))):=fun W' h y ty c sc=>
  ZaO W' _ _ ty 85 3 g ((i+1)*3) (l.length-i) c ⟨g,i*3,none⟩ (l.length+1-i) sc (Qg (l.drop i)) underlying39 ZgW (by rw[G];simp only [Nat.min_def];split <;> omega)
   (fun j v a=>by
    have U:j<(l.length-i)*3:=by rw[<-G];exact(List.getElem?_eq_some_iff.1 a).1
    rw[Addr.add_lit,h,cell_of_row W g _ _ _ _ f,D _ (by omega)]
    rw[Zcg,List.getElem?_drop] at a
    exact a)
   (fun j a=>by rw[h];exact H _ (by omega)) (fun j a=>by rw[y];exact J _) (Zac _)
 obtain⟨b,m⟩:∃ b,b=W.drew.setCells g ((i+1)*3) (Qg (l.drop i)):=⟨_,rfl⟩;have p:b.heap[g]?=some (.cells (Zfm cur ((i+1)*3) (Qg (l.drop i))) 85 (0,0)):=by rw[m];exact Xy g _ _ _ W.drew cur f
 have T:b.heap[N]?=some (.cells (Gq e) 85 (0,0)):=by rw[m,Zar g _ _ _ N X];exact n
 have u:(Qg [e]).length=3:=Xh [e]
 have L:∀ W',(∀ x,W'.cell? x=b.cell? x)->(∀ x,W'.frozen? x=b.frozen? x)->∀ ty c,(Builtin.copy_ #[39,39] ty #[.slice (some ⟨g,i*3,none⟩) (l.length+1-i) c,.slice (some ⟨N,0,none⟩) 1 1]).run prog W'=.ok (goInt (Nat.min 1 (l.length+1-i))) (W'.setCells g (i*3) (Qg [e])):=fun W' h y ty c=>
  ZaO W' _ _ ty 85 3 g (i*3) (l.length+1-i) c ⟨N,0,none⟩ 1 1 (Qg [e]) underlying39 ZgW (by rw[u];simp only [Nat.min_def];split <;> omega)
   (fun j v a=>by
    rw[Addr.add_lit,h,Nat.zero_add,cell_of_row b N _ _ _ _ T]
    have:(Qg [e])[j]?=(Gq e)[j]?:=by
     have U:j<3:=by rw[<-u];exact(List.getElem?_eq_some_iff.1 a).1
     have:=Zv [e] 0 j (by simp) U
     rwa [Nat.zero_mul,Nat.zero_add] at this
    rw[<-this]
    exact a)
   (fun j a=>by
    rw[h,cell_of_row b g _ _ _ _ p,Array.getElem?_eq_getElem (by rw[Xr];omega)]
    rfl) (fun j a=>by rw[y];exact frozen_of_row b g _ _ _ p) (Zac _)
 have R:Hid (Zzs w B (l.take i++(e::l.drop i)) (.returned (.slice (some ⟨g,0,none⟩) (l.length+1) cap)) (b.setCells g (i*3) (Qg [e]))):=ZZ (by
  refine⟨_,rfl,Xn.ofRow (ZaZ l i (by omega) e).symm A (Xy g _ _ _ b _ p) (by rw[ZaZ l i (by omega) e];exact aa) E (by rw[Xr,Xr];exact q) (fun j a=>?_),?_⟩
  ·rw[ZaZ l i (by omega) e] at a
   refine Zkr l i (by omega) e (fun j=>(Zfm (Zfm cur ((i+1)*3) (Qg (l.drop i))) (i*3) (Qg [e]))[j]?) (fun k S=>?_) (fun k S=>?_) (fun k S=>?_) j a
   ·show(Zfm (Zfm cur ((i+1)*3) (Qg (l.drop i))) (i*3) (Qg [e]))[k]?=_
    rw[Yq _ _ _ _ (by rw[Xr];omega),if_neg (by omega),Yq _ _ _ _ (by omega),if_neg (by omega)]
    exact D k (by omega)
   ·show(Zfm (Zfm cur ((i+1)*3) (Qg (l.drop i))) (i*3) (Qg [e]))[i*3+k]?=_
    rw[Yq _ _ _ _ (by rw[Xr];omega),if_pos (by omega),Nat.add_sub_cancel_left]
   ·show(Zfm (Zfm cur ((i+1)*3) (Qg (l.drop i))) (i*3) (Qg [e]))[(i+1)*3+k]?=_
    rw[Yq _ _ _ _ (by rw[Xr];omega),if_neg (by omega),Yq _ _ _ _ (by omega),if_pos (by omega),Nat.add_sub_cancel_left]
  ·rw[m]
   exact Gy A _ _ _ (Gy A _ _ _ (Zib O.o)))
 have Y:=fun ty c sc=>V W.drew (fun _=>rfl) (fun _=>rfl) ty c sc
 have K:=fun ty c=>L b (fun _=>rfl) (fun _=>rfl) ty c
 clear V L;rw[m] at R K;clear m p T D q M f n H J E O G u Q;have ax:prog.follows .mixedOrders=true:=by kernel_rfl
 have Z:¬ ((i:Int)=(l.length:Int)):=by omega
 have ar:((i:Int) == (l.length:Int))=false:=beq_eq_false_iff_ne.2 Z;have ai:IntKind.i64.wrap ((i:Int)+1)=(i:Int)+1:=by rw[IntKind.wrap_i64];omega
 have ap:IntKind.i64.wrap ((l.length:Int)+1)=(l.length:Int)+1:=by rw[IntKind.wrap_i64];omega
 have ag:(0:Int)<=(i:Int)+1:=by omega
 have al:i<=l.length:=by omega
 have ak:(i:Int)<=(l.length:Int):=by omega
 have au:((i:Int)+1).toNat=i+1:=by omega
 have af:((l.length:Int)+1).toNat=l.length+1:=by omega
 have ad:¬ (cap=i+1):=by omega
 have an:(i:Int)<=(l.length:Int)+1:=by omega
 have aq:¬ (cap=i):=by omega
 have ae:¬ ((cap:Int)<(l.length:Int)+1):=by omega
 have aw:(l.length:Int)+1<=(cap:Int):=by omega
 have ah:(i:Int)+1<=(l.length:Int)+1:=by omega
 generalize Qg (l.drop i)=aj at *;generalize Qg [e]=am at *;generalize l.take i++(e::l.drop i)=LL at *
 go_enter func88,ntmps88
 go_wp2_with(simp only [ac])
 go_region_law_o (refine step_copy_runI rfl _ _ 39 39 rfl _ _ (by simp[Act.eval,Act.put]) (by simp[Act.eval,Act.put]) (Y _ _ _) ?_)
 go_wp2_with(at_builtin;refine wpList_copy_runI _ rfl _ _ 39 39 rfl _ _ rfl rfl (K _ _) ?_)
 go_wp2;go_ret;exact R.o
end Go.Proofs.YtnahjngbneicaaaGreatDoor
