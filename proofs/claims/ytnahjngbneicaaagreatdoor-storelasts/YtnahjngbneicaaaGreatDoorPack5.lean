import Derived.Test.YtnahjngbneicaaaGreatDoorPack4
import Derived.Test.YtnahjngbneicaaaGreatDoorPack2
import Derived.Shelf.Slices.Empties2
import Derived.Shelf.Slices.Clone
import Derived.Shelf.Slices.Cells
import Derived.Shelf.Spec.SlicesInsertGrow
import Derived.Deep.DeepAppendWide
namespace Go.Proofs.YtnahjngbneicaaaGreatDoor
open _root_.Go.Proofs.Tryz
open List (append_nil drop_drop eq_nil_of_length_eq_zero length_append length_cons length_drop length_set length_take map_cons map_nil mem_cons take_length)
set_option maxHeartbeats 4000000
set_option maxRecDepth 100000
open Go.RowKit
variable {L l:List Ent} {B B' N T b c cap g i j n o:Nat} {a w w':World} {v v':Value} {p:Ent->Bool} {d:Dk} {cs cur:Array Value} {e:Ent}
abbrev zad:=@beq_eq_false_iff_ne
abbrev za8:=@beq_iff_eq
abbrev zbb:=@List.getElem?_append_left
abbrev zbf:=@bne_iff_ne
abbrev zbj:=@bne_eq_false_iff_eq
abbrev zbp:=@List.getElem?_append_right
abbrev zby:=@Array.getElem?_toList
abbrev zb3:=@List.getElem?_take_of_lt
abbrev zb5:=@Go.run_sliceAt_slice
abbrev zcf:=@Nat.add_sub_cancel_left
abbrev zck:=@List.cons_append
abbrev zcl:=@Go.Calls.mono
abbrev zcw:=@Nat.add_zero
abbrev zc0:=@List.map_append
abbrev zc3:=@Nat.zero_mul
abbrev zdk:=@Array.getElem?_append_left
abbrev zds:=@Array.getElem?_eq_getElem
abbrev zd6:=@List.getElem?_toArray
abbrev zef:=@Nat.sub_zero
abbrev zem:=@List.getElem?_drop
abbrev zen:=@Go.grownCap_le_maxLen
abbrev zeo:=@List.filter_append
abbrev zet:=@List.ext_getElem?
abbrev zey:=@Nat.lt_succ_self
abbrev zez:=@List.drop_length
abbrev ze4:=@List.drop_succ_cons
abbrev zfd:=@Go.size_zeroCells
abbrev zfi:=@Go.run_slice_l
abbrev zf1:=@List.replicate_succ
abbrev zf2:=@List.take_set_of_le
abbrev zf7:=@Go.grownCap_ge
abbrev zgn:=@Option.getD_some
abbrev zgu:=@Nat.min_def
abbrev zgv:=@UInt8.toNat_lt
def Cnt (l:List UInt8) (c:Nat):Prop:=
 (c=0∧∀ j,j<10->j<l.length->128<=(l.getD j 0).toNat)∨
 (1<=c∧c<=10∧c<=l.length∧(∀ j,j+1<c->128<=(l.getD j 0).toNat)∧(l.getD (c-1) 0).toNat<128)
theorem Zuz (v:Value) (l:List UInt8) (w:World) (x:Rd w v l):
 Calls prog 222 #[v] w fun e w'=>∃ c:Nat,e=.returned (.int .i64 (c:Int))∧Cnt l c∧w'=w:=by
 obtain⟨ao,cap,rfl,B,u,z,d⟩:=x;clear z;have I:(l.length:Int)<=9223372036854775807:=by unfold maxLen at u;omega
 by_cases F:(l.length:Int)<=10
 all_goals
  go_enter func222,ntmps222
  go_wp2
  go_loop [7] (fun i=>∃ k:Nat,i=.int .i64 k∧k<=10∧k<=l.length∧Hid (∀ j,j<k->128<=(l.getD j 0).toNat)) (fun i=>10-(intOf i).toNat)
  case atStart=>exact⟨0,rfl,by omega,by omega,fun j n=>by omega⟩
  case round=>
   obtain⟨k,rfl,C,E,f⟩:=hrel;by_cases m:k<10∧k<l.length
   ·obtain⟨m,p⟩:=m
    rcases d with d | ⟨b,G,rfl,q⟩
    ·subst d;simp at p
    ·have t:=q k p
     clear q;obtain⟨y,a⟩:=zgy ((l.getD k 0).toNat);rw[<-a] at t;have g:Hid (y=(l.getD k 0).toNat):=a;clear a;by_cases A:(y:Int)<128
     ·go_wp2
      go_ret;refine⟨k+1,ZbV (by omega),.inr ⟨by omega,by omega,by omega,fun j n=>f.out j (by omega),?_⟩,rfl⟩
      rw[zda,<-g.o];omega
     ·go_wp2
      go_round
      case rel=>
       refine⟨k+1,by go_num,by omega,by omega,fun j n=>?_⟩
       by_cases e:j=k
       ·rw[e,<-g.o];omega
       ·exact f.out j (by omega)
      case measure=>simp[intOf];omega
   ·go_wp2
    go_ret;exact⟨0,rfl,.inl ⟨rfl,fun j H D=>f.out j (by omega)⟩,rfl⟩
theorem Zse {l:List UInt8} (h:Cnt l 0):Qe l=(0,0):=by
 rcases h with ⟨_,h⟩ | h
 ·unfold Qe
  rw[Zld 10 l h]
 ·omega
theorem Zlu {l:List UInt8} (h:Cnt l (c+1)):c<10∧c<l.length∧(l.getD c 0).toNat<128∧
 dec 10 l=if 0<c∧(l.getD c 0).toNat=0 then none else some (val (l.take (c+1)),c+1):=by
 rcases h with h | ⟨g,i,e,b,d⟩
 ·omega
 ·have a:(l.getD c 0).toNat<128:=by simpa using d
  exact⟨by omega,by omega,a,ZtW c 10 l (by omega) (by omega) (fun j f=>b j (by omega)) a⟩
theorem ZdP (l:List UInt8) (k:Nat) (h:k<=l.length):val (l.take k)<128 ^ k:=by
 have:=Zye (l.take k)
 rwa [length_take,zcp h] at this
theorem ZuA {l:List UInt8} (h:Cnt l 10) (k:(l.getD 9 0).toNat≠1):Qe l=(0,0):=by
 obtain⟨j,i,c,d⟩:=Zlu h;unfold Qe;rw[d];by_cases a:(l.getD 9 0).toNat=0
 ·rw[zab ⟨by omega,a⟩]
 ·rw[zaa (fun e=>a e.2)]
  have b:=Zej l 9 i;have f:(l.getD 9 0).toNat % 128=(l.getD 9 0).toNat:=zc7 c;rw[f] at b;have g:128 ^ 9=9223372036854775808:=by decide
  rw[g] at b;have:¬ val (l.take (9+1))<18446744073709551616:=by omega
  simp only [this,zfl]
theorem Zpc {l:List UInt8} (h:Cnt l (c+1)) (b:0<c) (d:(l.getD c 0).toNat=0):Qe l=(0,0):=by
 obtain⟨f,g,e,a⟩:=Zlu h;unfold Qe;rw[a,zab ⟨b,d⟩]
theorem Zsf {l:List UInt8} (h:Cnt l (c+1)) (f:c=9->(l.getD c 0).toNat=1) (g:0<c->(l.getD c 0).toNat≠0):
 Qe l=(val (l.take (c+1)),c+1)∧val (l.take (c+1))<18446744073709551616:=by
 obtain⟨p,k,m,j⟩:=Zlu h
 have b:val (l.take (c+1))<18446744073709551616:=by
  by_cases e:c=9
  ·subst e
   have a:=Zej l 9 k;have i:=ZdP l 9 (by omega)
   rw[f rfl] at a;have d:128 ^ 9=9223372036854775808:=by decide
   rw[d] at a i;omega
  ·have a:=ZdP l (c+1) (by omega)
   have n:128 ^ (c+1)<=128 ^ 9:=zeb (by decide) (by omega)
   have d:128 ^ 9=9223372036854775808:=by decide
   omega
 refine⟨?_,b⟩;unfold Qe;rw[j,zaa (fun e=>g e.1 e.2)]
 simp only [b,zej]
theorem Zyi (k y x:Nat) (b:k<64) (d:y<2 ^ k) (f:x*2 ^ k<18446744073709551616):
 bits .or .u64 (y:Int) (IntKind.u64.wrap ((x:Int)*2 ^ k))=((y+x*2 ^ k:Nat):Int):=by
 have e:((x:Int)*2 ^ k)=((x*2 ^ k:Nat):Int):=by simp
 have a:((2 ^ k:Nat):Int)=(2:Int) ^ k:=by simp
 have c:(2:Nat) ^ k<=2 ^ 64:=zeb (by decide) (by omega)
 rw[e,wraps_u64 _ (by omega) (by omega),bits_join_low .u64 64 (by decide) wraps_u64 k (y:Int) ((x*2 ^ k:Nat):Int) (by omega) (by rw[<-a];omega) (by omega) (by omega) (by rw[<-a];simp) (by omega)]
 omega
theorem ZyJ (l:List UInt8) (k:Nat) (c:k<l.length) (j:k<10) (i:k=9->(l.getD k 0).toNat % 128<=1):
 bits .or .u64 ((val (l.take k):Nat):Int) (IntKind.u64.wrap (((l.getD k 0).toNat:Int) % 128*2 ^ (7*k)))=((val (l.take (k+1)):Nat):Int):=by
 have b:=ZdP l k (by omega)
 rw[Zej l k c,<-pow7];rw[<-pow7] at b;have e:(((l.getD k 0).toNat:Int) % 128)=(((l.getD k 0).toNat % 128:Nat):Int):=by omega
 rw[e];refine Zyi (7*k) _ _ (by omega) b ?_
 by_cases a:k=9
 ·have:=i a
  subst a;have g:2 ^ (7*9)=9223372036854775808:=by decide
  rw[g];omega
 ·have d:2 ^ (7*k)<=2 ^ 56:=zeb (by decide) (by omega)
  have f:(l.getD k 0).toNat % 128<=127:=by omega
  have:=zf5 f d;have m:127*2 ^ 56<18446744073709551616:=by decide
  omega
theorem Zkl (v:Value) (l:List UInt8) (w:World) (D:Rd w v l):
 Calls prog 207 #[v] w fun e w'=>e=.returned (.tuple #[.int .u64 ((Qe l).1:Nat),.int .i64 ((Qe l).2:Nat)])∧w'=w:=by
 have E:=Zuz v l w D;obtain⟨ao,cap,rfl,W,X,N,A⟩:=D;clear N;have C:=ZZ E;clear E
 go_enter func207,ntmps207
 go_wp2_with fail
 refine C.o.mono ?_;rintro e w' ⟨c,rfl,a,rfl⟩;have a:Hid (Cnt l c):=a;clear C
 cases c with
 | zero=>
  have H:Hid (Qe l=(0,0)):=Zse a.out;go_wp2;go_ret2;exact⟨by rw[H.out];rfl,rfl⟩
 | succ c=>
  obtain⟨Z,F,M,R⟩:=Zlu a.out;clear R;rcases A with A | ⟨b,ab,rfl,p⟩
  ·subst A;simp at F
  have B:=p c F;obtain⟨y,t⟩:=zgy ((l.getD c 0).toNat);rw[<-t] at B M;have d:Hid (y=(l.getD c 0).toNat):=t;have O:=ZZ p;clear t p;by_cases m:(c=9∧y≠1)∨(0<c∧y=0)
  ·have H:Hid (Qe l=(0,0)):=by
    rcases m with ⟨f,J⟩ | ⟨L,V⟩
    ·subst f
     exact ZuA a.out (by rw[<-d.o];exact J)
    ·exact Zpc a.out L (by rw[<-d.o];exact V)
   by_cases f:c=9
   ·have g:(((c:Int)+1) == 10)=true:=za8.2 (by omega)
    have I:((y:Int) != 1)=true:=by rw[zbf];omega
    clear m f;go_wp2;go_ret2;exact⟨by rw[H.out];rfl,rfl⟩
   ·have g:(((c:Int)+1) == 10)=false:=zad.2 (by omega)
    have q:(1:Int)<(c:Int)+1:=by omega
    have G:((y:Int) == 0)=true:=za8.2 (by omega)
    clear m f;go_wp2;go_ret2;exact⟨by rw[H.out];rfl,rfl⟩
  ·have H:Hid (Qe l=(val (l.take (c+1)),c+1)∧val (l.take (c+1))<18446744073709551616):=Zsf a.out (fun h=>by rw[<-d.o];omega) (fun h=>by rw[<-d.o];omega)
   have hw3:(c=9∧y=1)∨c=0∨(0<c∧c<9∧y≠0):=by omega
   have Q:Hid (c=9->y=1):=fun h=>by omega
   clear m;rcases hw3 with hw3 | hw3 | hw3
   all_goals
    first
     | (have g:(((c:Int)+1) == 10)=true:=za8.2 (by omega)
        have I:((y:Int) != 1)=false:=by rw[zbj];omega
        have q:(1:Int)<(c:Int)+1:=by omega
        have G:((y:Int) == 0)=false:=zad.2 (by omega))
     | (have g:(((c:Int)+1) == 10)=false:=zad.2 (by omega)
        have q:¬ (1:Int)<(c:Int)+1:=by omega)
     | (have g:(((c:Int)+1) == 10)=false:=zad.2 (by omega)
        have q:(1:Int)<(c:Int)+1:=by omega
        have G:((y:Int) == 0)=false:=zad.2 (by omega))
    clear hw3;have ez:(((c:Int)+1) == 0)=false:=zad.2 (by omega)
    go_wp2
    go_loop [5,35] (fun u i=>∃ k:Nat,k<=c+1∧i=.int .i64 k∧u=.int .u64 (val (l.take k):Nat)) (fun _ i=>c+1-(intOf i).toNat)
    case atStart=>exact⟨0,zai _,rfl,rfl⟩
    case round=>
     obtain⟨k,Y,rfl,rfl⟩:=hrel;by_cases aa:k<c+1
     ·have P:=O.o k (by omega)
      obtain⟨x,j⟩:=zgy ((l.getD k 0).toNat);rw[<-j] at P;have ac:x<256:=by rw[j];exact zgv _
      have K:=ZZ j;clear j;obtain⟨z,n⟩:=zgy (val (l.take k));rw[<-n];have T:=ZZ n;clear n B;go_wp2
      go_round
      case rel=>
       refine⟨k+1,by omega,by go_num,?_⟩
       rw[T.o,K.o,ZyJ l k (by omega) (by omega) (fun h=>?_)]
       have U:c=k:=by omega
       rw[<-U,<-d.o,Q.o (by omega)]
       decide
      case measure=>simp[intOf];omega
     ·go_wp2
      go_ret2;have S:k=c+1:=by omega
      rw[H.out.1,S];exact⟨rfl,rfl⟩
theorem ZcJ (v:Value) (l:List UInt8) (w:World) (g:Rd w v l):
 Calls prog 168 #[v] w fun e w'=>e=.returned (.tuple #[.int .i64 ((Qb l).1:Nat),.int .i64 ((Qb l).2:Nat)])∧w'=w:=by
 have a:=ZZ (Zkl v l w g);have H:Hid (Qb l=if(Qe l).1<4611686018427387904 then Qe l else(0,0)):=rfl
 generalize Qe l=d at *;obtain⟨u,k⟩:=d;obtain⟨U,b⟩:∃ U:Int,U=(u:Int):=⟨_,rfl⟩;simp only at a H;rw[<-b] at a;have j:0<=U:=by omega
 have c:=ZZ b;clear b;by_cases i:U<4611686018427387904
 ·go_enter func168,ntmps168
  go_wp2_with fail
  refine a.o.mono ?_;rintro e w' ⟨rfl,rfl⟩;go_wp2;go_ret2;have e:=H.out;have f:=c.o;rw[zab (by omega)] at e
  rw[e];exact⟨by rw[f];rfl,rfl⟩
 ·go_enter func168,ntmps168
  go_wp2_with fail
  refine a.o.mono ?_;rintro e w' ⟨rfl,rfl⟩;go_wp2;go_ret2;have e:=H.out;have f:=c.o;rw[zaa (by omega)] at e
  rw[e];exact⟨rfl,rfl⟩
theorem Zak (v:Value) (l:List UInt8) (w:World) (f:Rd w v l):
 Calls prog 201 #[v] w fun e w'=>e=.returned (.tuple #[.int .i64 (zag (Qe l).1),.int .i64 ((Qe l).2:Nat)])∧w'=w:=by
 have b:=ZZ (Zkl v l w f);have a:=Zle l;have c:=G0 l;generalize Qe l=d at *;obtain⟨u,k⟩:=d;simp only at b a c
 go_enter func201,ntmps201
 go_wp2_with fail
 refine b.o.mono ?_;rintro e w' ⟨rfl,rfl⟩
 go_wp2_with fail
 refine(Zyt u _ a).mono ?_;rintro e g ⟨rfl,rfl⟩;go_wp2;go_ret2;exact⟨rfl,rfl⟩
theorem Zgl:∀ (k v:Nat),Lib.leBytes (k+1) v=Lib.leBytes k v++[(v / 256 ^ k % 256).toUInt8]
 | 0,v=>by simp[Lib.leBytes]
 | k+1,v=>by
  have a:=Zgl k (v / 256);have e:v / 256 / 256 ^ k=v / 256 ^ (k+1):=by rw[Nat.div_div_eq_div_mul,ze7,ze8]
  rw[Lib.leBytes,a,e];simp[Lib.leBytes]
def ZhW (c k v:Nat):List UInt8:=Lib.leBytes k v++List.replicate (c-k) 0
theorem Znd (c k v:Nat) (h:k<=c):(ZhW c k v).length=c:=by
 simp[ZhW,zcq];omega
theorem ZuB (c k v:Nat) (h:k<c):(Lib.byteCells (ZhW c k v)).set k (.int .u8 ((v / 256 ^ k % 256:Nat):Int))=Lib.byteCells (ZhW c (k+1) v):=by
 have e:c-k=(c-(k+1))+1:=by omega
 unfold ZhW;rw[Zgl,e,zf1];have a:(Lib.byteCells (Lib.leBytes k v)).length=k:=by rw[Y0,zcq]
 have b:((v / 256 ^ k % 256).toUInt8).toNat=v / 256 ^ k % 256:=zfg (zfx _ (by decide))
 simp only [Lib.byteCells,zc0,map_cons,map_nil,b] at a ⊢;rw[zeu _ _ (by omega),a]
 simp
theorem ZAm (k:Nat):2 ^ (8*k)=256 ^ k:=by rw[Nat.pow_mul]
theorem ZuC (v k:Nat):((v:Int) / 2 ^ (8*k)) % 256=((v / 256 ^ k % 256:Nat):Int):=by
 rw[<-ZAm];simp
theorem Zsg (v c:Nat) (w:World) (D:c<=8):
 Calls prog 186 #[.int .u64 (v:Int),.int .i64 (c:Int)] w fun e w'=>∃ v',e=.returned v'∧Own w' w.heap.size v' (Lib.leBytes c v)∧Below w.heap.size w w':=by
 obtain⟨y,z,u,x,B⟩:=zbo Zlf
 go_enter func186,ntmps186
 go_wp2_with(at_make;refine wpList_make_full _ rfl _ _ 53 rfl w.heap.size 5 y (.int .u8 0) 1 underlying53 z u x _ _ _ _ c rfl rfl rfl rfl (by rw[B];omega) (by unfold maxLen;omega) zL ?_)
 intro q g d;have m:Below w.heap.size w q:=(zac _ _).grown d zL (fun k b=>by cases b)
 have p:q.ownsRow w.heap.size 5 1 (.slice (some ⟨w.heap.size,0,none⟩) c c) c (Lib.byteCells (ZhW c 0 v)):=by
  have e:(madeCells #[Value.int .u8 0] c).toList=Lib.byteCells (ZhW c 0 v):=by
   rw[toList_madeCells_one];simp[ZhW,Lib.leBytes,Lib.byteCells]
  rw[<-e];exact g
 have A:=ZZ p;have t:=ZZ m;clear g p m d;go_wp2
 go_loopw[11] (fun i wr=>∃ k:Nat,k<=c∧i=.int .i64 (k:Int)∧Hid (wr.ownsRow w.heap.size 5 1 (.slice (some ⟨w.heap.size,0,none⟩) c c) c (Lib.byteCells (ZhW c k v)))∧Hid (Below w.heap.size w wr)) (fun i _=>c-(intOf i).toNat)
 case atStart=>exact⟨0,zai _,rfl,A,t⟩
 case round=>
  obtain⟨k,b,rfl,a,j⟩:=hrel;by_cases f:k<c
  ·have C:wr.cell? ⟨w.heap.size,k,none⟩=some (.int .u8 ((ZhW c k v).getD k 0).toNat):=by
    rw[World.ownsRow.cellAt a.out k (by omega),ZbU _ _ (by rw[Znd c k v b];exact f)]
   have E:wr.frozen? ⟨w.heap.size,k,none⟩=false:=World.ownsRow.frozenAt a.out k;go_wp2;go_roundw
   case rel=>
    have n:=World.ownsRow.stored a.out k (Value.int .u8 ((v / 256 ^ k % 256:Nat):Int));rw[ZuB c k v f] at n;rw[ZuC];exact⟨k+1,by omega,by go_num,n.1,j.out.setCell zL _⟩
   case measure=>simp[intOf];omega
  ·go_wp2
   go_ret;have e:k=c:=by omega
   refine⟨_,rfl,Own.mk' (l:=Lib.leBytes c v) a.out (by rw[zcq]) ?_,j.out⟩
   rw[e];simp[ZhW]
theorem ZhX (v:Nat) (w:World) (h:v<4294967296):
 Calls prog 135 #[.int .u32 (v:Int)] w fun e w'=>∃ v',e=.returned v'∧Own w' w.heap.size v' (Lib.leBytes 4 v)∧Below w.heap.size w w':=by
 have a:Hid (Calls prog 186 #[.int .u64 (v:Int),.int .i64 4] w fun e w'=>∃ v',e=.returned v'∧Own w' w.heap.size v' (Lib.leBytes 4 v)∧Below w.heap.size w w'):=Zsg v 4 w (by omega)
 obtain⟨U,c⟩:∃ U:Int,U=(v:Int):=⟨_,rfl⟩;have i:0<=U:=by omega
 have j:U<4294967296:=by omega
 rw[<-c] at a ⊢;clear c h
 go_enter func135,ntmps135
 go_wp2_with fail
 refine a.o.mono ?_;rintro e w' ⟨v',rfl,d,b⟩;have g:=ZZ d;have f:=ZZ b;clear d b a;go_wp2;go_ret;exact⟨v',rfl,g.o,f.o⟩
theorem Zlv:∀ l:List UInt8,Lib.leNat l<256 ^ l.length
 | []=>by simp[Lib.leNat]
 | c::r=>by
  have h:=Zlv r;have a:=c.toNat_lt;simp only [Lib.leNat,length_cons,ze7];omega
theorem Zkm:∀ (l:List UInt8) (c:UInt8),Lib.leNat (l++[c])=Lib.leNat l+c.toNat*256 ^ l.length
 | [],c=>by simp[Lib.leNat]
 | d::r,c=>by
  have h:=Zkm r c;simp only [zck,Lib.leNat,length_cons,ze7,h];rw[Nat.mul_add,<-zfj,ze8 256 c.toNat,zfj,ze8 256 (256 ^ r.length)];omega
theorem Zsh (l:List UInt8) (k:Nat) (h:k<l.length):Lib.leNat (l.take (k+1))=Lib.leNat (l.take k)+(l.getD k 0).toNat*256 ^ k:=by
 rw[Zhk l k h,Zkm,length_take,zcp (by omega)]
theorem Zlw (l:List UInt8) (k:Nat) (h:k<=l.length):Lib.leNat (l.take k)<256 ^ k:=by
 have:=Zlv (l.take k)
 rwa [length_take,zcp h] at this
theorem ZwZ (l:List UInt8) (k:Nat) (b:k<l.length) (f:k<8):
 bits .or .u64 ((Lib.leNat (l.take k):Nat):Int) (IntKind.u64.wrap (((l.getD k 0).toNat:Int)*2 ^ (8*k)))=((Lib.leNat (l.take (k+1)):Nat):Int):=by
 have a:=Zlw l k (by omega)
 rw[Zsh l k b,<-ZAm];rw[<-ZAm] at a;refine Zyi (8*k) _ _ (by omega) a ?_
 have c:2 ^ (8*k)<=2 ^ 56:=zeb (by decide) (by omega)
 have e:=(l.getD k 0).toNat_lt;have d:(l.getD k 0).toNat<=255:=by omega
 have:=zf5 d c;have g:255*2 ^ 56<18446744073709551616:=by decide
 omega
theorem Zne (v:Value) (l:List UInt8) (w:World) (j:Rd w v l):
 Calls prog 161 #[v] w fun e w'=>e=.returned (.int .u64 (Lib.leNat (l.take 8):Nat))∧w'=w:=by
 obtain⟨ao,cap,rfl,t,g,p,c⟩:=j;clear p;have D:(l.length:Int)<=9223372036854775807:=by unfold maxLen at g;omega
 by_cases B:(l.length:Int)<=8
 all_goals
  go_enter func161,ntmps161
  go_wp2
  go_loop [3,8] (fun n i=>∃ k:Nat,i=.int .i64 k∧k<=8∧k<=l.length∧n=.int .u64 (Lib.leNat (l.take k):Nat)) (fun _ i=>8-(intOf i).toNat)
  case atStart=>exact⟨0,rfl,by omega,by omega,rfl⟩
  case round=>
   obtain⟨k,rfl,u,A,rfl⟩:=hrel;by_cases a:k<8∧k<l.length
   ·obtain⟨a,d⟩:=a
    rcases c with c | ⟨b,C,rfl,f⟩
    ·subst c;simp at d
    ·have q:=f k d
     have m:=ZZ (ZwZ l k d a);have x:(l.getD k 0).toNat<256:=zgv _;clear f;generalize (l.getD k 0).toNat=y at *;generalize Lib.leNat (l.take k)=z at *;go_wp2
     go_round
     case rel=>exact⟨k+1,by go_num,by omega,by omega,by rw[m.o]⟩
     case measure=>simp[intOf];omega
   ·go_wp2
    go_ret;refine⟨ZbV ?_,rfl⟩;by_cases e:k=8
    ·rw[e]
    ·rw[zbc (by omega:l.length<=k),zbc (by omega:l.length<=8)]
def bs (l:List UInt8):ByteArray:=⟨l.toArray⟩
theorem ZuD (l:List UInt8):(bs l).toList=l:=ByteArray.toList_mk l
theorem ZAn (a b:List UInt8):((bs a).toList == (bs b).toList)=(a == b):=by rw[ZuD,ZuD]
theorem Rd.str {l:List UInt8} (h:Rd w v l):(convert 53 9 v).run prog w=.ok (.string (bs l)) w:=by
 obtain⟨ao,cap,rfl,_,_,d,h⟩:=h
 cases ao with
 | none=>
  have b:l=[]:=eq_nil_of_length_eq_zero (by have:=d rfl;omega)
  subst b;exact run_convert_bytes_nil w 53 5 underlying53 underlying5 0 cap 9 underlying9
 | some a=>
  have b:(loadCells a l.length).run prog w=.ok ((l.map fun c=>(c.toNat:Int)).map (Value.int .u8)).toArray w:=by
   have:=run_loadCells_list (P:=prog) w a (Lib.byteCells l) (Rd.cells h a rfl);rw[Y0] at this;rw[this];simp[Lib.byteCells,Function.comp_def]
  rw[run_convert_bytes_string w 53 9 5 _ l.length cap underlying53 underlying5 underlying9,run_bytesToString w _ l.length cap _ b,foldl_push_bytes]
  have e:(List.map (fun n:Int=>UInt8.ofNat n.toNat) (List.map (fun c:UInt8=>(c.toNat:Int)) l))=l:=by
   rw[List.map_map]
   conv=>rhs;rw[<-List.map_id l]
   apply List.map_congr_left;intro c _;simp
  rw[e];simp[bs,ByteArray.empty,ByteArray.emptyWithCapacity];rfl
def ZyK (B:Nat) (w:World) (p:Nat) (d:Dk) (N T:Nat):Prop:=∃ F,Dsk F w p d N T∧∀ k,F k->B<=k
theorem ZqP (B:Nat) (room:Int) (f:I64 room) (w:World) (b:B<=w.heap.size):
 Calls prog 9 #[.int .i64 room] w fun e w'=>∃ p,e=.returned (ptr p)∧ZyK B w' p (ZgP room) 0 0∧Below B w w':=by
 refine(ZyF room f w).mono ?_;rintro e w' ⟨p,c,d,a⟩;exact⟨p,c,⟨_,d,fun k g=>by omega⟩,a.mono b⟩
theorem Dsk.ltF {F:Nat->Prop} {p:Nat} (h:Dsk F w p d N T):∀ k,F k->k<w.heap.size:=by
 obtain⟨L,a,_⟩:=h;exact a.lt
theorem Zsi {p:Nat} (w:World) (h:ZyK B w p d N T) (b:N<=1000000):
 Calls prog 28 #[ptr p] w fun e w'=>∃ v,e=.returned v∧Qs w' w.heap.size v ((Qm d).map Prod.fst)∧Below w.heap.size w w':=by
 obtain⟨F,⟨L,c,a,_⟩,f⟩:=h;exact ZeC w c a b
theorem ZyK.ok {p:Nat} (h:ZyK B w p d N T):OkD d∧Bnd d N T:=by
 obtain⟨F,⟨L,c,a,b,_⟩,e⟩:=h;exact⟨a,b⟩
theorem Jw (w:World) (o:Obj):Below w.heap.size w (w.alloc o):=(zac _ w).alloc zL o
theorem Rd.mid {ao:Option Addr} {l:List UInt8} (h:Rd w (.slice ao n cap) l) (i j m:Nat) (C:i<=j) (B:j<=l.length) (E:j<=m) (y:m<=cap):Rd w (sliced ao i j m 1) ((l.drop i).take (j-i)):=by
 obtain⟨z,F,g,D,A,f,c⟩:=h;simp only [za1] at g;obtain⟨rfl,rfl,rfl⟩:=g;have d:((l.drop i).take (j-i)).length=j-i:=by simp;omega
 unfold sliced;by_cases q:m=i
 ·rw[zab q]
  have e:j-i=0:=by omega
  refine⟨ao,m-i,by rw[d],by omega,by omega,fun a=>by have:=f a;omega,.inl ?_⟩
  rw[e];simp
 ·rw[zaa q]
  refine⟨ao.map (·.add (i*1)),m-i,by rw[d],by omega,by omega,fun a=>?_,?_⟩
  ·have v:ao=none:=by simpa using a
   have:=f v;omega
  ·rcases c with c | ⟨b,x,u,t⟩
   ·exact .inl (by rw[c];simp)
   ·refine .inr ⟨b,x+i,?_,fun k p=>?_⟩
    ·rw[u,zch,zcy,zbg]
    ·rw[d] at p
     rw[zbs,t (i+k) (by omega)]
     simp[List.getD,p]
theorem Jo:prog.elem 53=5:=by kernel_rfl
theorem Zce (w:World):(sizeOf 5).run prog w=.ok 1 w:=by
 obtain⟨c,b,_,a,_⟩:=zbo Zlf;simp[sizeOf,typeInfo,b,a]
theorem Xu:prog.underlying 53=some (.slice (prog.elem 53)):=by rw[Jo];exact underlying53
theorem ZhY (w:World) (v:Value) (l:List UInt8) (a:Rd w v l) (k:IntKind) (i:Int) (b:0<=i) (d:i<=l.length):
 ∃ v',(Instr.sliceAt 53 v (some (.int k i)) none none).run prog w=.ok v' w∧Rd w v' (l.drop i.toNat):=by
 have h:=a;obtain⟨ao,cap,rfl,c,_⟩:=a;refine⟨sliced ao i.toNat l.length cap 1,?_,?_⟩
 ·rw[zb5 w 53 _ _ _ _ Xu,zfi w 53 ao l.length cap Xu k i b (by omega),Jo,Zce]
  rfl
 ·have:=h.mid i.toNat l.length cap (by omega) zL c zL
  rw[zbc (by simp)] at this
  exact this
theorem ZfF (w:World) {e:Array Oper} {rest:List Oper} {o:Oper} {a:Act} {Q:Exit->Act->World->Prop} (f:o.guard=none) (x:Operand) (lo d c:Option Operand)
 (i:o.op=.slice 53 x lo d c) (l:List UInt8)
 (b:∃ v',(Instr.sliceAt 53 (a.eval x) (lo.map a.eval) (d.map a.eval) (c.map a.eval)).run prog w=.ok v' w∧Rd w v' l)
 (h:∀ v',Rd w v' l->wpList prog e Q rest (a.put o.dst v') w):wpList prog e Q (o::rest) a w:=
 zbr f fun _ j=>by
  obtain⟨v',b,g⟩:=b;unfold Oper.wp execOp;simp only [i,b,zbk,zbn,za7];exact j _ _ (h v' g)
def Zsj (e:Ent):Value:=.agg #[.int .i64 e.proc,.int .i64 e.seq,.int .i64 e.resp]
def Gq (e:Ent):Array Value:=#[.int .i64 e.proc,.int .i64 e.seq,.int .i64 e.resp]
def Zlx (e:Ent):Prop:=I64 e.proc∧I64 e.seq∧I64 e.resp
def Be (w:World) (b:Nat) (cs:Array Value):Prop:=w.heap[b]?=some (.cells cs 85 (0,0))
theorem Be.lt (h:Be w b cs):b<w.heap.size:=(zan.1 h).1
theorem Be.below (h:Be w b cs) (a:Below B w w') (c:w.heap.size<=B):Be w' b cs:=(a.block b (by have:=h.lt;omega)).trans h
theorem Be.cell (h:Be w b cs) (j:Nat):w.cell? ⟨b,j,none⟩=cs[j]?∧w.frozen? ⟨b,j,none⟩=false:=⟨zam w b j _ _ _ h,za2 w b j _ _ h⟩
def Znf (w:World) (b o:Nat) (e:Ent):Prop:=
 w.cell? ⟨b,o,none⟩=some (.int .i64 e.proc)∧w.cell? ⟨b,o+1,none⟩=some (.int .i64 e.seq)∧w.cell? ⟨b,o+2,none⟩=some (.int .i64 e.resp)
theorem Znf.lt (h:Znf w b o e):b<w.heap.size:=zau w ⟨b,o,none⟩ h.1
theorem Znf.keep (h:Znf w b o e) (c:w'.heap[b]?=w.heap[b]?):Znf w' b o e:=by
 have d:∀ i,w'.cell? ⟨b,i,none⟩=w.cell? ⟨b,i,none⟩:=fun i=>zb2 (a:=⟨b,i,none⟩) c
 unfold Znf at h ⊢;simp only [d];exact h
def RdE (w:World) (v:Value) (l:List Ent):Prop:=
 ∃ ao cap,v=.slice ao l.length cap∧l.length<=cap∧cap<=maxLen∧(ao=none->cap=0)∧(∀ e ∈ l,Zlx e)∧
  (l=[]∨∃ b off,ao=some ⟨b,off,none⟩∧∀ j,j<l.length->Znf w b (off+j*3) (l.getD j Xi))
theorem RdE.nil (w:World):RdE w (.slice none 0 0) []:=⟨none,0,rfl,zat _,zai _,fun _=>rfl,(fun r h=>by simp at h),.inl rfl⟩
theorem RdE.below (h:RdE w v l) {B:Nat} (m:Below B w w') (t:w.heap.size<=B):RdE w' v l:=by
 obtain⟨ao,cap,q,k,d,g,e,a⟩:=h;refine⟨ao,cap,q,k,d,g,e,?_⟩;rcases a with a | ⟨b,p,i,f⟩
 ·exact .inl a
 ·refine .inr ⟨b,p,i,fun j n=>?_⟩
  have c:=f j n;exact c.keep (m.block b (by have:=c.lt;omega))
def Qg:List Ent->List Value
 | []=>[]
 | r::t=>(Gq r).toList++Qg t
theorem Xh:∀ l:List Ent,(Qg l).length=l.length*3
 | []=>rfl
 | r::t=>by
  rw[Qg,length_append,Xh t,length_cons];simp[Gq];omega
theorem Zaz:∀ a b:List Ent,Qg (a++b)=Qg a++Qg b
 | [],_=>rfl
 | r::t,b=>by rw[zck,Qg,Zaz t b,Qg,zcn]
theorem Zv:∀ (l:List Ent) (j k:Nat),j<l.length->k<3->(Qg l)[j*3+k]?=(Gq (l.getD j Xi))[k]?
 | r::t,0,k,_,hk=>by
  rw[Qg,zc3,za5,zbb (by simp[Gq];omega)]
  simp[List.getD]
 | r::t,j+1,k,hj,hk=>by
  have e:(j+1)*3+k=(Gq r).toList.length+(j*3+k):=by simp[Gq];omega
  rw[Qg,e,zbp (by omega),zcf,Zv t j k (by simpa using hj) hk]
  simp[List.getD]
theorem Zac (l:List Ent):∀ u ∈ Qg l,u.oneCell'=true:=by
 induction l with
 | nil=>intro u a;simp[Qg] at a
 | cons r t b=>
  intro u a;rw[Qg] at a;rcases zaw.1 a with h | h
  ·simp[Gq] at h
   rcases h with rfl | rfl | rfl <;> rfl
  ·exact b u h
def Xn (w:World) (B:Nat) (v:Value) (l:List Ent):Prop:=w.ownsRow B 85 3 v l.length (Qg l)
theorem Xn.nil (w:World) (B:Nat):Xn w B (.slice none 0 0) []:=zcb w B 85 3
theorem Xn.rd (h:Xn w B v l) (c:∀ r ∈ l,Zlx r):RdE w v l:=by
 rcases h.2 with ⟨a,d⟩ | ⟨g,cap,cur,a,x,t,p,i,q,y⟩
 ·exact⟨none,0,by rw[a,d],by omega,zai _,fun _=>rfl,c,.inl (eq_nil_of_length_eq_zero d)⟩
 ·refine⟨some ⟨g,0,none⟩,cap,a,p,i,(fun e=>by cases e),c,.inr ⟨g,0,rfl,fun j n=>?_⟩⟩
  have b:∀ k u,k<3->(Gq (l.getD j Xi))[k]?=some u->w.cell? ⟨g,0+j*3+k,none⟩=some u:=fun k u m f=>by
   have:=zct h (g:=g) (by rw[a];rfl) (j*3+k) u ((Zv l j k n m).trans f)
   rw[zbg] at this;rw[zbs];exact this
  exact⟨b 0 _ (by decide) rfl,b 1 _ (by decide) rfl,b 2 _ (by decide) rfl⟩
theorem Xn.below (h:Xn w B v l) (e:Below B' w w') (i:w.heap.size<=B'):Xn w' B v l:=by
 obtain⟨f,a⟩:=h;refine⟨f,?_⟩;rcases a with a | ⟨g,cap,cur,c,d,b,r⟩
 ·exact .inl a
 ·have j:g<w.heap.size:=(zan.1 b).1
  exact .inr ⟨g,cap,cur,c,d,by rw[e.block g (by omega)];exact b,r⟩
theorem Xn.mono (h:Xn w B v l) (e:B'<=B):Xn w B' v l:=by
 obtain⟨b,a⟩:=h;refine⟨b,?_⟩;rcases a with a | ⟨g,cap,cur,c,d,r⟩
 ·exact .inl a
 ·exact .inr ⟨g,cap,cur,c,by omega,r⟩
theorem Xn.shape (h:Xn w B v l):∃ ao cap,v=.slice ao l.length cap:=by
 rcases h.2 with ⟨a,b⟩ | ⟨g,cap,cur,a,_⟩
 ·exact⟨none,0,by rw[a,b]⟩
 ·exact⟨_,_,a⟩
theorem RdE.shape (h:RdE w v l):∃ ao cap,v=.slice ao l.length cap:=by
 obtain⟨ao,cap,a,_⟩:=h;exact⟨ao,cap,a⟩
theorem ZgV:(prog.info? 85).map (fun i=>(i.zero,i.size,i.bytes))=some (some (.agg #[.int .i64 0,.int .i64 0,.int .i64 0]),3,24):=by kernel_rfl
theorem ZjH (w:World) (ty:TypeId) (B:Nat) (v:Value) (l:List Ent) (h:Xn w B v l) (r:Ent) (q:l.length<=1000000) (a:B<=w.heap.size):
 ∃ v' w',(Builtin.append_ #[39,39] ty #[v,.slice (some ⟨w.heap.size,0,none⟩) 1 1]).run prog (w.alloc (.cells (Gq r) 85))=.ok v' w'∧Xn w' B v' (l++[r])∧Below B w w':=by
 obtain⟨e,d,b,c,p⟩:=zbo ZgV
 obtain⟨v',w',m,n,g,_⟩:=zdc (P:=prog) (w.alloc (.cells (Gq r) 85)) B 39 ty 85 e _ 3 24 underlying39 d b c p rfl (by decide) v l.length (Qg l) (h.alloc _)
  ⟨w.heap.size,0,none⟩ 1 1 (Qg [r]) (Xh [r]) (fun j u i=>by
   rw[zbg,za5,zam _ w.heap.size j _ 85 (0,0) (zaf w _)]
   simpa[Qg] using i) (Zac [r]) (by unfold maxLen;omega) (by omega) (by simp;omega)
 refine⟨v',w',m,?_,?_⟩
 ·unfold Xn
  rw[length_append,Zaz];exact n
 ·exact((zac _ _).alloc a _).grown g (by simp;omega) (fun k f=>(zar h k f).1)
theorem ZfG (w:World) {b:Array Oper} {rest:List Oper} {o:Oper} {a:Act} {Q:Exit->Act->World->Prop} (e:o.guard=none) (s x:Operand)
 (k:o.op=.call { callee:=.builtin .append,args:=#[s,x],argTypes:=#[39,39] })
 (B:Nat) (v:Value) (l:List Ent) (m:a.eval s=v) (i:Xn w B v l) (r:Ent) (p:a.eval x=.slice (some ⟨w.heap.size,0,none⟩) 1 1)
 (f:l.length<=1000000) (d:B<=w.heap.size)
 (h:∀ v' w',Xn w' B v' (l++[r])->Below B w w'->wpList prog b Q rest (a.put o.dst v') w'):wpList prog b Q (o::rest) a (w.alloc (.cells (Gq r) 85)):=
 zbr e fun _ n=>by
  obtain⟨v',w',j,g,c⟩:=ZjH w o.type B v l i r f d;unfold Oper.wp execOp;simp only [k,resolve,invoke,builtin,zbk,zbn,za7,zc8,map_cons,map_nil,m,p,j];exact n _ _ (h v' w' g c)
def SnV (w:World) (v:Value) (s:Q0):Prop:=
 ∃ vl vt,v=.agg #[.int .i64 s.idx,.int .i64 s.st.kind,vl,.bool s.st.shut,.int .i64 s.st.eng,vt]∧RdI w vl s.st.L∧I64 s.st.kind∧I64 s.st.eng∧RdE w vt s.tab∧I64 s.idx
def G8 (p:Int):List Ent->Nat
 | []=>0
 | x::t=>if p<x.proc then 0 else G8 p t+1
theorem Zng (p:Int):∀ t,G8 p t<=t.length
 | []=>zat _
 | x::t=>by
  rw[G8];split
  ·exact zai _
  ·have:=Zng p t
   rw[length_cons];omega
def Zpd (p:Int) (t:List Ent):List Ent:=t.filter (fun x=>decide (x.proc≠p))
theorem Zxa (p:Int) (t:List Ent):(Zpd p t).length<=t.length:=zdn _ _
theorem Znh (e:Ent):∀ t:List Ent,ZcF t e=(Zpd e.proc t).take (G8 e.proc (Zpd e.proc t))++(e::(Zpd e.proc t).drop (G8 e.proc (Zpd e.proc t)))
 | []=>rfl
 | x::t=>by
  have b:=Znh e t;unfold ZcF at b ⊢;unfold Zpd at b ⊢
  have d:(x::t).filter (fun y=>decide (y.proc≠e.proc))=if x.proc=e.proc then t.filter (fun y=>decide (y.proc≠e.proc)) else x::t.filter (fun y=>decide (y.proc≠e.proc)):=by
   rw[zc6];by_cases h:x.proc=e.proc <;> simp[h]
  rw[Zfy,d];by_cases c:x.proc=e.proc
  ·have a:¬ e.proc<x.proc:=by omega
   simp only [c,zej];rw[zaa (by simp),zae (by omega),ze2,b]
   rfl
  ·simp only [zaa c]
   by_cases a:e.proc<x.proc
   ·rw[zab (by simp[a]),zah a,zgk,Zfz,G8,zab a]
    rfl
   ·rw[zaa (fun h=>a h.2),zae a,Bool.or_false,G8,zaa a,b]
    rfl
theorem Zkn {p:Int}:∀ {t:List Ent},(∀ j,j<t.length->¬ p<(t.getD j Xi).proc)->G8 p t=t.length
 | [],_=>rfl
 | x::t,h=>by
  have a:=h 0 (by simp)
  rw[show(x::t).getD 0 Xi=x from rfl] at a;rw[G8,zaa a,Zkn (fun j b=>h (j+1) (by simpa using b))]
  rfl
theorem Zni {p:Int}:∀ {t:List Ent} {i:Nat},i<t.length->(∀ j,j<i->¬ p<(t.getD j Xi).proc)->p<(t.getD i Xi).proc->G8 p t=i
 | [],i,hi,_,_=>absurd hi (zcj _)
 | x::t,0,_,_,h=>by
  rw[show(x::t).getD 0 Xi=x from rfl] at h;rw[G8,zab h]
 | x::t,i+1,hi,hb,h=>by
  have a:=hb 0 (by omega)
  rw[show(x::t).getD 0 Xi=x from rfl] at a;rw[G8,zaa a,Zni (i:=i) (by simpa using hi) (fun j b=>hb (j+1) (by omega)) h]
theorem ZuE {b:List UInt8} {r:List Ent × List UInt8} (h:Jx n b=some r):n<=b.length:=by
 obtain⟨t,x⟩:=r;obtain⟨c,a⟩:=ZdL n b t x h;have:=ZmN t;rw[a,length_append];omega
theorem Znj {b:List UInt8} (c:(Qb b).2≠0):Zbe b=(Jx (Qb b).1 (b.drop (Qb b).2)).bind (fun r=>if r.2=[] then some r.1 else none):=by
 unfold Zbe;by_cases a:b.length<(Qb b).1
 ·rw[zab (.inr a)]
  cases h:Jx (Qb b).1 (b.drop (Qb b).2) with
  | none=>rfl
  | some r=>
   have:=ZuE h;rw[length_drop] at this;omega
 rw[zaa (by omega)]
 cases Jx (Qb b).1 (b.drop (Qb b).2) with
 | none=>rfl
 | some p=>
  obtain⟨t,x⟩:=p
  cases x <;> rfl
theorem Zpe {l:List UInt8} {a:Nat} (h:a<l.length):Ya (l.drop a)=(l.drop a).take 64::Ya (l.drop (a+64)):=by
 rw[Zx (fun e=>by
  have:=congrArg List.length e;rw[length_drop,zcr] at this
  omega),drop_drop]
theorem ZuF (P:List (List UInt8)):Zfx P↔P=Ya P.flatten:=
 ⟨fun h=>(ZcD P h).symm,fun h=>by rw[h];exact ZcE _ _ zL⟩
theorem ZuG (e:Ent):Qz ⟨0,e.proc,e.seq,⟨0,0,0⟩,e.resp⟩↔Zbm e:=by
 unfold Qz Zbm Ge;simp only;omega
def ZhZ (t:List Ent):Nat->Int
 | 0=>0
 | k+1=>(t.getD k Xi).proc+1
theorem Zpf {t:List Ent} {k:Nat}:Gf t (k+1)↔Gf t k∧Zbm (t.getD k Xi)∧ZhZ t k<=(t.getD k Xi).proc:=by
 rw[Gf.next];constructor
 ·rintro⟨h1,h2,h3⟩
  refine⟨h1,h2,?_⟩
  cases k with
  | zero=>exact h2.1
  | succ k=>
   have:=h3 (by omega)
   rw[zda] at this;rw[ZhZ];omega
 ·rintro⟨h1,h2,h3⟩
  refine⟨h1,h2,fun h=>?_⟩
  cases k with
  | zero=>omega
  | succ k=>
   rw[ZhZ] at h3;rw[zda];omega
theorem ZuH (i:Int) (t:List Ent):¬ Z6 ⟨i,ZcB,t⟩:=by
 rintro⟨-,h,-⟩
 revert h
 show ¬ Yl ZcB;decide
def Zs:Nat->List UInt8->Option (List Nat × List UInt8)
 | 0,b=>some ([],b)
 | n+1,b=>if(Qb b).2=0 then none else(Zs n (b.drop (Qb b).2)).map (fun r=>((Qb b).1::r.1,r.2))
theorem ZaO {P:Program} (w:World) (g x ty e:TypeId) (k:Nat) (b o d t:Nat) (a:Addr) (c m:Nat) (cs:List Value)
 (n:P.underlying g=some (.slice e)) (l:(P.info? e).map (·.size)=some k) (u:cs.length=Nat.min c d*k)
 (p:∀ j v,cs[j]?=some v->w.cell? (a.add j)=some v) (z:∀ j,j<cs.length->(w.cell? ⟨b,o+j,none⟩).isSome=true) (y:∀ j,j<cs.length->w.frozen? ⟨b,o+j,none⟩=false) (B:∀ v ∈ cs,v.oneCell'=true):
 (Builtin.copy_ #[g,x] ty #[.slice (some ⟨b,o,none⟩) d t,.slice (some a) c m]).run P w=.ok (goInt (Nat.min c d)) (w.setCells b o cs):=by
 have f:=run_loadCells_list (P:=P) w a cs p;have A:=run_storeCells_cells (P:=P) b o cs 0 w (by simpa using z) (by simpa using y) B
 cases hq:P.info? e with
 | none=>simp[hq] at l
 | some i=>
  have q:i.size=k:=by simpa[hq] using l
  rw[u] at f;simp[Builtin.copy_,zev n,Builtin.lenOf,Builtin.firstCells,sizeOf,typeInfo,hq,q,f,A]
def Zbu:Nat->List Value
 | 0=>[]
 | n+1=>.int .i64 0::.int .i64 0::.int .i64 0::Zbu n
theorem Gk:∀ n,(Zbu n).length=n*3
 | 0=>rfl
 | n+1=>by rw[Zbu,length_cons,length_cons,length_cons,Gk n];omega
theorem ZfH:∀ n,∀ v ∈ Zbu n,v=.int .i64 0
 | 0,v,h=>by simp[Zbu] at h
 | n+1,v,h=>by
  rw[Zbu,mem_cons,mem_cons,mem_cons] at h;rcases h with h | h | h | h
  ·exact h
  ·exact h
  ·exact h
  ·exact ZfH n v h
theorem Zko (n:Nat):(Builtin.zeroCells (Value.agg #[.int .i64 0,.int .i64 0,.int .i64 0]).cells n).toList=Zbu n:=by
 have d:(Value.agg #[.int .i64 0,.int .i64 0,.int .i64 0]).cells=#[.int .i64 0,.int .i64 0,.int .i64 0]:=by rfl
 rw[d];apply zet;intro i;by_cases h:i<n*3
 ·have a:i<(Zbu n).length:=by rw[Gk];exact h
  have b:(Zbu n)[i]?=some (.int .i64 0):=by
   rw[za3 a,ZfH n _ (zcs a)]
  rw[b];have f:i % 3=0∨i % 3=1∨i % 3=2:=by omega
  simp only [Builtin.zeroCells,zby,Array.getElem?_map];have c:(Array.range (n*(#[Value.int .i64 0,.int .i64 0,.int .i64 0]:Array Value).size))[i]?=some i:=by simp[h]
  rw[c];have g:(#[Value.int .i64 0,.int .i64 0,.int .i64 0]:Array Value).size=3:=rfl;rw[g];rcases f with e | e | e <;> rw[zcy,e] <;> rfl
 ·rw[zbw (by simp[Builtin.zeroCells];omega),zbw (by rw[Gk];omega)]
theorem Zia {P:Program} (w:World) (t e ty:TypeId) (f:P.underlying t=some (.slice e)) (d:∀ w,(zeroValue e).run P w=.ok (.agg #[.int .i64 0,.int .i64 0,.int .i64 0]) w) (b o n c:Nat) (l:0<n)
 (i:∀ j,j<n*3->(w.cell? ⟨b,o+j,none⟩).isSome=true) (g:∀ j,j<n*3->w.frozen? ⟨b,o+j,none⟩=false):
 (Builtin.clear_ #[t] ty #[.slice (some ⟨b,o,none⟩) n c]).run P w=.ok (.tuple #[]) (w.setCells b o (Zbu n)):=by
 have a:=run_storeCells_cells (P:=P) b o (Zbu n) 0 w (by rw[Gk];simpa using i) (by rw[Gk];simpa using g) (by intro v k;rw[ZfH n v k];rfl)
 simp only [zcw] at a;obtain⟨m,rfl⟩:∃ m,n=m+1:=⟨n-1,by omega⟩
 simp[Builtin.clear_,zev f,d,Zko,a]
def Zpg (r s:Ent):Bool:=r.proc == s.proc && r.seq == s.seq && r.resp == s.resp
theorem ZuI (w:World) (r s:Ent):(binOp .neq 85 (.agg #[.int .i64 r.proc,.int .i64 r.seq,.int .i64 r.resp]) (.agg #[.int .i64 s.proc,.int .i64 s.seq,.int .i64 s.resp])).run prog w=.ok (.bool (!Zpg r s)) w:=by
 have c:=underlying3;have e:=Tryz.isAgg3;have d:=Tryz.sizeOf3;have b:prog.underlying 85=some (.struct (prog.fieldsOf 85)):=by kernel_rfl
 have a:prog.stoodInHeld 85=false:=by kernel_rfl
 unfold Zpg;rw[run_neq_struct,show(10000:Nat)=9999+1 from rfl,run_equalIn_agg w 9999 85 _ _ b a];simp only [Program.fieldsOf,underlying85]
 go_simp
 repeat' split
 all_goals simp_all
theorem ZuJ:prog.eqGuardType prog.depth 85=false:=by kernel_rfl
theorem Znk (r s:Ent):Zpg r s=true↔r=s:=by
 obtain⟨i,p,q⟩:=r;obtain⟨b,c,a⟩:=s;simp[Zpg];constructor
 ·rintro⟨⟨rfl,rfl⟩,rfl⟩
  simp
 ·rintro⟨rfl,rfl,rfl⟩
  simp
theorem Zsk (r:Ent):Zpg r r=true:=(Znk r r).2 rfl
theorem ZuK {r s:Ent} (h:r≠s):Zpg r s=false:=by
 cases hq:Zpg r s
 ·rfl
 ·exact absurd ((Znk _ _).1 hq) h
open Go.RowKit Go.Shelf
def Zxb:Go.Shelf.Ren:=⟨fun | 111=>89 | n=>n,fun | 28=>23 | 3=>3 | 4=>4 | 0=>0 | n=>n,fun | n=>n⟩
theorem ZAo:Go.Proofs.Lays.n111 prog Zxb:={
 mixed:=by kernel_rfl
 f111:=func89.trans (congrArg some (by kernel_rfl))
 t0:=underlying0
 a0:=Tryz.isAgg0
 z0:=Tryz.sizeOf0
 v0:=Tryz.zeroValue0
 t3:=underlying3
 a3:=Tryz.isAgg3
 z3:=Tryz.sizeOf3
 v3:=Tryz.zeroValue3
 t4:=underlying4
 a4:=Tryz.isAgg4
 z4:=Tryz.sizeOf4
 v4:=Tryz.zeroValue4
 t28:=underlying23
 a28:=Tryz.isAgg23
 z28:=Tryz.sizeOf23
 v28:=Tryz.zeroValue23 }
def Zsl:Go.Shelf.Ren:=⟨fun | 15=>39 | n=>n,fun | 22=>23 | 3=>3 | 4=>4 | n=>n,fun | n=>n⟩
theorem ZuL:Go.Proofs.Lays2.n15 prog Zsl:={
 mixed:=by kernel_rfl
 f15:=func39.trans (congrArg some (by kernel_rfl))
 t3:=underlying3
 a3:=Tryz.isAgg3
 z3:=Tryz.sizeOf3
 v3:=Tryz.zeroValue3
 t4:=underlying4
 a4:=Tryz.isAgg4
 z4:=Tryz.sizeOf4
 v4:=Tryz.zeroValue4
 t22:=underlying23
 a22:=Tryz.isAgg23
 z22:=Tryz.sizeOf23
 v22:=Tryz.zeroValue23
 i3:=by kernel_rfl }
def Zsm:Go.Shelf.Ren:=⟨fun | 23=>210 | n=>n,fun | 22=>23 | 3=>3 | 4=>4 | 0=>0 | n=>n,fun | n=>n⟩
theorem ZzD:Go.Proofs.Lays2.n23 prog Zsm:={
 mixed:=by kernel_rfl
 f23:=func210.trans (congrArg some (by kernel_rfl))
 t0:=underlying0
 a0:=Tryz.isAgg0
 z0:=Tryz.sizeOf0
 v0:=Tryz.zeroValue0
 t3:=underlying3
 a3:=Tryz.isAgg3
 z3:=Tryz.sizeOf3
 v3:=Tryz.zeroValue3
 t4:=underlying4
 a4:=Tryz.isAgg4
 z4:=Tryz.sizeOf4
 v4:=Tryz.zeroValue4
 t22:=underlying23
 a22:=Tryz.isAgg23
 z22:=Tryz.sizeOf23
 v22:=Tryz.zeroValue23
 i3:=by kernel_rfl }
def Zkp:Go.Shelf.Ren:=⟨fun | 21=>212 | 27=>223 | 28=>224 | 35=>229 | 39=>232 | n=>n,fun | 22=>23 | 3=>3 | 4=>4 | 0=>0 | n=>n,fun | n=>n⟩
theorem Znl:Go.Proofs.Lays2.n21 prog Zkp:={
 mixed:=by kernel_rfl
 f21:=func212.trans (congrArg some (by kernel_rfl))
 f27:=func223.trans (congrArg some (by kernel_rfl))
 f28:=func224.trans (congrArg some (by kernel_rfl))
 f35:=func229.trans (congrArg some (by kernel_rfl))
 f39:=func232.trans (congrArg some (by kernel_rfl))
 t0:=underlying0
 a0:=Tryz.isAgg0
 z0:=Tryz.sizeOf0
 v0:=Tryz.zeroValue0
 t3:=underlying3
 a3:=Tryz.isAgg3
 z3:=Tryz.sizeOf3
 v3:=Tryz.zeroValue3
 t4:=underlying4
 a4:=Tryz.isAgg4
 z4:=Tryz.sizeOf4
 v4:=Tryz.zeroValue4
 t22:=underlying23
 a22:=Tryz.isAgg23
 z22:=Tryz.sizeOf23
 v22:=Tryz.zeroValue23
 i3:=by kernel_rfl }
def Zfm (cur:Array Value):Nat->List Value->Array Value
 | _,[]=>cur
 | o,v::r=>Zfm (cur.setIfInBounds o v) (o+1) r
theorem Xr:∀ (vs:List Value) (o:Nat) (cur:Array Value),(Zfm cur o vs).size=cur.size
 | [],_,_=>rfl
 | v::r,o,cur=>by rw[Zfm,Xr r];simp
theorem Yq:∀ (vs:List Value) (o:Nat) (cur:Array Value) (j:Nat),j<cur.size->(Zfm cur o vs)[j]?=if o<=j∧j<o+vs.length then vs[j-o]? else cur[j]?
 | [],o,cur,j,_=>by
  rw[Zfm,zaa (by rw[zcr];omega)]
 | v::r,o,cur,j,hj=>by
  rw[Zfm,Yq r (o+1) _ j (by simpa using hj)]
  by_cases h:j=o
  ·subst h
   rw[zaa (by omega),zab (by simp)]
   simp[hj]
  ·by_cases a:o+1<=j∧j<o+1+r.length
   ·rw[zab a,zab (by simp;omega)]
    rw[show j-o=(j-(o+1))+1 by omega]
    simp
   ·rw[zaa a,zaa (by simp;omega)]
    simp[show ¬ o=j by omega]
theorem Xy (g:Nat) (t:TypeId):∀ (vs:List Value) (o:Nat) (w:World) (cur:Array Value),w.heap[g]?=some (.cells cur t (0,0))->(w.setCells g o vs).heap[g]?=some (.cells (Zfm cur o vs) t (0,0))
 | [],_,_,_,h=>h
 | v::r,o,w,cur,h=>by
  rw[World.setCells,Zfm];exact Xy g t r (o+1) _ _ (zba w g o cur t v h)
theorem Gy (b:B<=g):∀ (vs:List Value) (o:Nat) (w:World),Below B a w->Below B a (w.setCells g o vs)
 | [],_,_,h=>h
 | v::r,o,w,h=>by
  rw[World.setCells];exact Gy b r (o+1) _ (h.setCell b v)
theorem Zib (h:Below B a w):Below B a w.drew:=⟨h.os,h.tape,h.output,h.size,h.block⟩
theorem Qs.ofRow {l:List Int} (e:B<=g) (c:w.heap[g]?=some (.cells cur 3 (0,0))) (i:l.length<=cap) (f:cap<=maxLen) (b:cur.size=cap) (d:∀ j,j<l.length->cur[j]?=some (.int .i64 (l.getD j 0))):
 Qs w B (.slice (some ⟨g,0,none⟩) l.length cap) l:=by
 refine⟨by rw[Zk,zch],.inr ⟨g,cap,cur,rfl,e,c,i,f,by rw[b,zch],?_⟩⟩
 apply zet;intro j;rw[zch];by_cases a:j<l.length
 ·rw[zb3 a,Zu l j a,zby]
  exact d j a
 ·rw[zbw (by simp;omega),zbw (by rw[Zk];omega)]
theorem Qs.ofRowN {l:List Int} (d:n=l.length) (e:B<=g) (b:w.heap[g]?=some (.cells cur 3 (0,0))) (i:l.length<=cap) (f:cap<=maxLen) (a:cur.size=cap) (c:∀ j,j<l.length->cur[j]?=some (.int .i64 (l.getD j 0))):
 Qs w B (.slice (some ⟨g,0,none⟩) n cap) l:=by
 subst d;exact Qs.ofRow e b i f a c
theorem Qs.row {l:List Int} (h:Qs w B v l):(v=.slice none 0 0∧l=[])∨∃ g cap cur,v=.slice (some ⟨g,0,none⟩) l.length cap∧B<=g∧g<w.heap.size∧w.heap[g]?=some (.cells cur 3 (0,0))∧l.length<=cap∧cap<=maxLen∧cur.size=cap∧∀ j,j<l.length->cur[j]?=some (.int .i64 (l.getD j 0)):=by
 rcases h.2 with ⟨a,b⟩ | ⟨g,cap,cur,a,b,c,k,i,m,f⟩
 ·exact .inl ⟨a,eq_nil_of_length_eq_zero b⟩
 ·refine .inr ⟨g,cap,cur,a,b,(zan.1 c).1,c,k,i,by rw[m,zch],fun j d=>?_⟩
  have e:=Zu l j d;rw[<-f,zch,zb3 d,zby] at e;exact e
theorem Zkq (w:World) (q:Nat):(w.drewN q).heap=w.heap:=by
 induction q generalizing w with
 | zero=>rfl
 | succ n a=>exact a _
structure Mv (w w':World) (v v':Value):Prop where
 grown:w.grownBy w' v.ownBlock
 lies:∀ b,v'.ownBlock=some b->v.ownBlock=some b∨w.heap.size<=b
theorem Mv.size (h:Mv w w' v v'):w.heap.size<=w'.heap.size:=h.grown.size
theorem Mv.ofBelow (h:Below w.heap.size w w') (v:Value):Mv w w' v v:=⟨⟨h.os,h.tape,h.output,h.size,fun k a _=>h.block k a⟩,fun _ b=>.inl b⟩
theorem Mv.refl (w:World) (v:Value):Mv w w v v:=Mv.ofBelow (zac _ _) v
theorem Mv.alloc (w:World) (v:Value) (X:Obj):Mv w (w.alloc X) v v:=Mv.ofBelow ((zac _ _).alloc zL X) v
theorem Mv.trans {j i:World} {f d:Value} (a:Mv w j v f) (c:Mv j i f d):Mv w i v d:=by
 have n:=a.size;refine⟨⟨c.grown.os.trans a.grown.os,c.grown.tape.trans a.grown.tape,c.grown.output.trans a.grown.output,zas n c.size,fun k l g=>?_⟩,fun b m=>?_⟩
 ·rw[c.grown.block k (by omega) (fun e=>?_)]
  ·exact a.grown.block k l g
  ·rcases a.lies k e.symm with h | h
   ·exact g h.symm
   ·omega
 ·rcases c.lies b m with h | h
  ·exact a.lies b h
  ·exact .inr (by omega)
theorem Mv.drew (h:Mv w w' v v'):Mv w w'.drew v v':=⟨⟨h.grown.os,h.grown.tape,h.grown.output,h.grown.size,h.grown.block⟩,h.lies⟩
theorem Mv.below (h:Mv w w' v v') {B:Nat} {l:List Int} (a:Qs w B v l) (c:B<=w.heap.size):Below B w w':=
 ⟨h.grown.os,h.grown.tape,h.grown.output,h.size,fun k b=>h.grown.block k (by omega) (fun e=>by have:=(zar a k e.symm).1;omega)⟩
theorem Mv.app (h:w.grownBy w' v.ownBlock) (e:w.heap.size=N) (a:v'.ownBlock=v.ownBlock∨∃ g,v'.ownBlock=some g∧N<=g):Mv w w' v v':=by
 refine⟨h,fun b c=>?_⟩
 rcases a with a | ⟨g,a,d⟩
 ·exact .inl (by rw[<-a];exact c)
 ·rw[a] at c
  injection c with c
  exact .inr (by omega)
theorem Zar (g:Nat):∀ (vs:List Value) (o:Nat) (w:World) (k:Nat),k≠g->(w.setCells g o vs).heap[k]?=w.heap[k]?
 | [],_,_,_,_=>rfl
 | v::r,o,w,k,h=>by
  rw[World.setCells,Zar g r (o+1) _ k h];exact zal _ _ _ _ h
theorem Mv.cells {n' c':Nat} (h:Mv w w' v (.slice (some ⟨g,0,none⟩) n c)) (o:Nat) (vs:List Value):Mv w (w'.setCells g o vs) v (.slice (some ⟨g,0,none⟩) n' c'):=by
 have d:=Gy (B:=0) (g:=g) (a:=w') (zai _) vs o w' (zac _ _);refine⟨⟨d.os.trans h.grown.os,d.tape.trans h.grown.tape,d.output.trans h.grown.output,zas h.size d.size,fun k i f=>?_⟩,fun b d=>h.lies b d⟩
 rw[Zar g vs o w' k (fun e=>?_)]
 ·exact h.grown.block k i f
 ·rcases h.lies g rfl with h' | h'
  ·exact f (by rw[e,h'])
  ·omega
theorem Mv.made {e:Value} (h:Mv w w' v e) (X:Obj) (n c:Nat):Mv w (w'.alloc X) v (.slice (some ⟨w'.heap.size,0,none⟩) n c):=by
 have a:=(zac w'.heap.size w').alloc zL X;refine⟨⟨a.os.trans h.grown.os,a.tape.trans h.grown.tape,a.output.trans h.grown.output,zas h.size a.size,fun k d f=>?_⟩,fun b a=>.inr ?_⟩
 ·rw[a.block k (by have:=h.size;omega)]
  exact h.grown.block k d f
 ·have:=ZoJ a
  have:=h.size;omega
theorem Mv.drewN (h:Mv w w' v v') (q:Nat):Mv w (w'.drewN q) v v':=by
 have a:=Xo (zac 0 w') q;exact⟨⟨a.os.trans h.grown.os,a.tape.trans h.grown.tape,a.output.trans h.grown.output,zas h.size a.size,fun k b c=>by rw[Zkq];exact h.grown.block k b c⟩,h.lies⟩
theorem Qs.put {l:List Int} (h:Qs w B v l) (j:Nat) (f:j<l.length) (n:Int):
 ∃ g cap,v=.slice (some ⟨g,0,none⟩) l.length cap∧w.cell? ⟨g,j,none⟩=some (.int .i64 (l.getD j 0))∧w.frozen? ⟨g,j,none⟩=false∧B<=g∧g<w.heap.size∧Qs (w.setCell ⟨g,j,none⟩ (.int .i64 n)) B v (l.set j n)∧Mv w (w.setCell ⟨g,j,none⟩ (.int .i64 n)) v v:=by
 rcases h.row with ⟨_,a⟩ | ⟨g,cap,cur,rfl,a,p,b,u,t,q,d⟩
 ·subst a;simp at f
 ·refine⟨g,cap,rfl,?_,za2 w g j _ _ b,a,p,?_,(Mv.refl w (.slice (some ⟨g,0,none⟩) l.length cap)).cells j [_]⟩
  ·rw[zam w g j _ _ _ b]
   exact d j f
  ·have e:l.length=(l.set j n).length:=by simp
   rw[e];refine Qs.ofRow a (zba w g j _ _ _ b) (by rw[<-e];exact u) t (by simpa using q) (fun i c=>?_)
   rw[<-e] at c;by_cases k:i=j
   ·subst k
    have:i<cur.size:=by omega
    simp[this,List.getD,c]
   ·have m:¬ j=i:=fun h=>k h.symm
    have:=d i c;simp[m,this,List.getD]
theorem ZfI (v:Value) (l:List Int) (w:World) (k:RdI w v l) (u:l.length<=1000000):
 Calls prog 39 #[v] w fun e w'=>∃ v',e=.returned v'∧Qs w' w.heap.size v' l∧Below w.heap.size w w':=by
 obtain⟨ao,cap,rfl,p,q,m,t,i⟩:=k
 cases ao with
 | none=>
  have j:=m rfl;have c:l=[]:=eq_nil_of_length_eq_zero (by omega)
  subst c;refine zcl (Any.slices_Clone_int_nil ZuL _ cap w) ?_;rintro e w' ⟨rfl,rfl⟩;exact⟨_,rfl,Qs.nil _ _,zac _ _⟩
 | some a=>
  by_cases c:l=[]
  ·subst c
   refine zcl (Any.slices_Clone_int_zero ZuL a cap w) ?_;rintro e w' ⟨v',rfl,d,_,g⟩;exact⟨v',rfl,d,g⟩
  ·rcases i with i | ⟨b,n,f,j⟩
   ·exact absurd i c
   ·injection f with f
    subst f;refine zcl (Any.slices_Clone_int ZuL b n l.length cap l w zL (by omega) j) ?_
    rintro e w' ⟨v',rfl,d,_,g⟩;refine⟨v',rfl,?_,g⟩;rw[take_length] at d;exact d
theorem Zsn (j:Value) (A:List Int) (f:Value) (B:List Int) (w:World) (y:RdI w j A) (u:RdI w f B):
 Calls prog 89 #[j,f] w fun e w'=>e=.returned (.bool (decide (A=B)))∧Below w.heap.size w w':=by
 obtain⟨ao,cap,rfl,D,n,H,E,c⟩:=y;obtain⟨i,a,rfl,I,C,G,J,d⟩:=u;by_cases g:A.length=B.length
 ·by_cases b:A.length=0
  ·have l:A=[]:=eq_nil_of_length_eq_zero b
   have m:B=[]:=eq_nil_of_length_eq_zero (by omega)
   subst l;subst m;refine zcl (Any.slices_Equal_int_empty ZAo ao i cap 0 a w (by omega)) ?_
   rintro e w' ⟨rfl,rfl⟩;exact⟨rfl,zac _ _⟩
  ·rcases c with c | ⟨v,k,rfl,z⟩
   ·rw[c] at b;simp at b
   rcases d with d | ⟨x,p,rfl,t⟩
   ·have K:B.length=0:=by rw[d];rfl
    omega
   have L:cap<=9223372036854775807:=by unfold maxLen at n;omega
   have F:a<=9223372036854775807:=by unfold maxLen at C;omega
   refine zcl (Any.slices_Equal_int ZAo v k A.length cap x p B.length a A B w zL zL (by omega) (by omega) z t) ?_
   rintro e w' ⟨rfl,q,rfl⟩;refine⟨?_,Xo (zac _ _) q⟩;rw[take_length,take_length];by_cases h:A=B
   ·rw[zah h,za8.2 h]
   ·rw[zae h,zad.2 h]
 ·refine zcl (Any.slices_Equal_int_lens ZAo ao i A.length cap B.length a w g) ?_
  rintro e w' ⟨rfl,rfl⟩;exact⟨by rw[zae (fun h=>g (by rw[h]))],zac _ _⟩
theorem Zic (v:Value) (l:List Int) (B:Nat) (w:World) (u:Qs w B v l) (i j:Nat) (C:i<j) (c:j<=l.length) (I J:Int) (y:I=i) (f:J=j):
 Calls prog 210 #[v,.int .i64 I,.int .i64 J] w fun e w'=>∃ v',e=.returned v'∧Qs w' B v' (l.take i++l.drop j)∧Mv w w' v v':=by
 subst y;subst f;rcases u.row with ⟨_,n⟩ | ⟨g,cap,cur,rfl,d,A,b,m,z,x,p⟩
 ·subst n;simp at c;omega
 ·unfold maxLen at z
  refine zcl (Any.slices_Delete_int_cells ZzD g 0 l.length cap i j l w zL m (by omega) (by omega) c
   (fun k a=>by rw[za5,zam w g k _ _ _ b];exact p k a) (fun k a=>by rw[za5];exact za2 w g k _ _ b)) ?_
  rintro e w' ⟨rfl,q,rfl⟩;refine⟨_,rfl,?_,((Mv.refl w (.slice (some ⟨g,0,none⟩) l.length cap)).drewN q).cells _ _⟩;have t:(l.take i++l.drop j).length=l.length-(j-i):=by simp;omega
  rw[<-t];refine Qs.ofRow d (Xy g _ _ _ _ cur (by rw[Zkq];exact b)) (by omega) (by unfold maxLen;omega) (by rw[Xr];exact x) (fun k a=>?_)
  rw[Yq _ _ _ _ (by omega),take_length,zab (by simp at a ⊢;omega),zef,zc0,zbb (by simpa using a)]
  exact Zu _ k a
theorem get3 {α:Type} (A vs:List α) (i:Nat) (d:i<=A.length) (j:Nat):(A.take i++(vs++A.drop i))[j]?=if j<i then A[j]? else if j<i+vs.length then vs[j-i]? else A[j-vs.length]?:=by
 have c:(A.take i).length=i:=by simp;omega
 by_cases a:j<i
 ·rw[zab a,zbb (by omega),zb3 a]
 ·rw[zaa a,zbp (by omega),c]
  by_cases b:j<i+vs.length
  ·rw[zab b,zbb (by omega)]
  ·rw[zaa b,zbp (by omega),zem]
   congr 1
   omega
theorem ZcK (A B:List Int):Qr (A++B)=Qr A++Qr B:=by simp[Qr]
theorem Zly (A:List Int) (i:Nat):Qr (A.take i)=(Qr A).take i:=by simp[Qr]
theorem Zlz (A:List Int) (i:Nat):Qr (A.drop i)=(Qr A).drop i:=by simp[Qr]
theorem ZeE (l:List Int) (i:Nat) (b:i<=l.length) (x y:Int) (j:Nat) (a:j<(l.take i++([x,y]++l.drop i)).length):
 some (.int .i64 ((l.take i++([x,y]++l.drop i)).getD j 0))=if j<i then(Qr l)[j]? else if j<i+2 then[Value.int .i64 x,.int .i64 y][j-i]? else(Qr l)[j-2]?:=by
 rw[<-Zu _ j a,ZcK,ZcK,Zly,Zlz];exact get3 (Qr l) (Qr [x,y]) i (by rw[Zk];exact b) j
theorem Zph (v:Value) (l:List Int) (B:Nat) (w:World) (ho:Qs w B v l) (hB:B<=w.heap.size) (af:l.length<=1000000) (i:Nat) (L:i<=l.length) (I:Int) (hI:I=i) (x y:Int) (N:Nat) (hN:N=w.heap.size):
 Calls prog 212 #[v,.int .i64 I,.slice (some ⟨N,0,none⟩) 2 2] (w.alloc (.cells #[.int .i64 x,.int .i64 y] 3)) fun e w'=>∃ v',e=.returned v'∧Qs w' B v' (l.take i++([x,y]++l.drop i))∧Mv w w' v v':=by
 subst hI;subst hN;have z:Mv w (w.alloc (.cells #[.int .i64 x,.int .i64 y] 3)) v v:=Mv.alloc w v _;have G:=zaf w (.cells #[.int .i64 x,.int .i64 y] 3);have ai:(w.alloc (.cells #[.int .i64 x,.int .i64 y] 3)).heap.size=w.heap.size+1:=by simp
 have ae:∀ k,k<w.heap.size->(w.alloc (.cells #[.int .i64 x,.int .i64 y] 3)).heap[k]?=w.heap[k]?:=fun k hk=>zao _ _ _ hk
 generalize w.alloc (.cells #[.int .i64 x,.int .i64 y] 3)=W at *;have f:(l.take i++([x,y]++l.drop i)).length=l.length+2:=by simp;omega
 have F:∀ j u,[Value.int .i64 x,.int .i64 y][j]?=some u->W.cell? ⟨w.heap.size,0+j,none⟩=some u:=fun j u d=>by
  rw[za5,zam W w.heap.size j _ _ _ G];simpa using d
 have D:∀ u ∈ [Value.int .i64 x,.int .i64 y],u.oneCell'=true:=fun u d=>by
  simp at d;rcases d with rfl | rfl <;> rfl
 have m:=Zk l;have Y:=Zmu l;have p:(Value.int .i64 0).cells.size=1:=rfl;have Q:Zkp.t 3=3:=rfl;rcases ho.row with ⟨rfl,rfl⟩ | ⟨g,cap,cur,rfl,S,ac,hg,X,R,P,hc⟩
 ·have ad:i=0:=by simpa using L
  subst ad;refine zcl (Any2.slices_Insert_int_end_grow Znl none 0 0 w.heap.size 0 2 2 [] [.int .i64 x,.int .i64 y] W (by omega) (by omega) (by omega) (by omega) rfl rfl (fun _=>rfl) (fun a C=>by cases C) F D) ?_
  rintro e w' ⟨rfl,rfl⟩;rw[Q];have M:=zf7 W (0+2) 0 3;have E:=zen W (0+2) 0 3 (by unfold maxLen;omega)
  refine⟨_,rfl,?_,z.drew.made _ _ _⟩;have e2:0+2=([x,y]:List Int).length:=rfl;show Qs _ B (.slice (some ⟨W.heap.size,0,none⟩) (0+2) (grownCap W (0+2) 0 3)) [x,y];generalize grownCap W (0+2) 0 3=q at *
  exact Qs.ofRow (by omega) (zaf W.drew _) M E (by simp[zfd,p];omega) (fun j b=>by
   have ab:j=0∨j=1:=by simp at b;omega
   rcases ab with rfl | rfl <;> (rw[zdk (by simp)];rfl))
 ·have n:W.heap[g]?=some (.cells cur 3 (0,0)):=(ae g ac).trans hg
  have J:∀ j u,(Qr l)[j]?=some u->W.cell? ⟨g,0+j,none⟩=some u:=fun j u d=>by
   have b:j<l.length:=by rw[<-m];exact(zbm.1 d).1
   rw[za5,zam W g j _ _ _ n,hc j b,<-Zu l j b,d]
  have T:∀ j,j<l.length->cur[j]?=(Qr l)[j]?:=fun j b=>by rw[hc j b,Zu l j b]
  have V:cap<=9223372036854775807:=by unfold maxLen at R;omega
  by_cases Z:l.length+2<=cap
  ·have U:∀ j,j<l.length+2->(W.cell? ⟨g,0+j,none⟩).isSome=true:=fun j b=>by
    rw[za5,zam W g j _ _ _ n,zds (by omega)]
    rfl
   have aa:∀ j,j<l.length+2->W.frozen? ⟨g,0+j,none⟩=false:=fun j b=>za2 W g _ _ _ n
   by_cases K:i=l.length
   ·subst K
    refine zcl (Any2.slices_Insert_int_end_room Znl g 0 l.length cap w.heap.size 0 2 2 [.int .i64 x,.int .i64 y] W (by omega) Z V rfl
     (fun j b=>by rw[zbs];exact U _ (by omega)) (fun j b=>by rw[zbs];exact aa _ (by omega)) F D) ?_
    rintro e w' ⟨rfl,rfl⟩;refine⟨_,rfl,?_,z.cells _ _⟩;rw[<-f];refine Qs.ofRow S (Xy g _ _ _ _ cur n) (by omega) R (by rw[Xr];exact P) (fun j b=>?_)
    rw[Yq _ _ _ _ (by omega),ZeE l l.length zL x y j b,za5]
    rw[f] at b;by_cases c:j<l.length
    ·rw[zaa (by omega),zab c,T j c]
    ·rw[zab (by simp;omega),zaa c,zab (by omega)]
   ·refine zcl (Any2.slices_Insert_int_shift Znl g 0 l.length cap i w.heap.size 0 2 2 (Qr l) [.int .i64 x,.int .i64 y] W (by omega) (by omega) Z V (by omega) m rfl J U aa F Y D
     3 3 2 cap (by simp[World.shape?,G]) (by simp[World.shape?,n,P]) (by omega) (za2 W _ _ _ _ G) (za2 W _ _ _ _ G)) ?_
    rintro e w' ⟨rfl,rfl⟩;refine⟨_,rfl,?_,(Mv.cells (n':=0) (c':=0) z.drew _ _).cells _ _⟩;rw[<-f];refine Qs.ofRow S (Xy g _ _ _ _ _ (Xy g _ _ _ _ cur n)) (by omega) R (by rw[Xr,Xr];exact P) (fun j b=>?_)
    rw[Yq _ _ _ _ (by rw[Xr];omega),Yq _ _ _ _ (by omega),ZeE l i L x y j b,za5,za5]
    rw[f] at b;have O:((Qr l).drop i).length=l.length-i:=by simp[Qr]
    rw[O];by_cases c:j<i
    ·rw[zaa (by omega),zaa (by omega),zab c,T j (by omega)]
    ·by_cases A:j<i+2
     ·rw[zab (by simp;omega),zaa c,zab A]
     ·rw[zaa (by simp;omega),zab (by omega),zaa c,zaa A,zem]
      congr 1
      omega
  ·by_cases K:i=l.length
   ·subst K
    refine zcl (Any2.slices_Insert_int_end_grow Znl (some ⟨g,0,none⟩) l.length cap w.heap.size 0 2 2 (Qr l) [.int .i64 x,.int .i64 y] W (by omega) X (by omega) (by omega) m rfl (fun h=>by cases h)
     (fun a C j u d=>by injection C with C;subst C;rw[zbg];exact J j u d) F D) ?_
    rintro e w' ⟨rfl,rfl⟩;rw[Q];have M:=zf7 W (l.length+2) cap 3;have E:=zen W (l.length+2) cap 3 (by unfold maxLen;omega)
    refine⟨_,rfl,?_,z.drew.made _ _ _⟩;show Qs _ B (.slice (some ⟨W.heap.size,0,none⟩) (l.length+2) (grownCap W (l.length+2) cap 3)) _;generalize grownCap W (l.length+2) cap 3=q at *;rw[<-f];refine Qs.ofRow (by omega) (zaf W.drew _) (by omega) E (by simp[zfd,p,m];omega) (fun j b=>?_)
    rw[ZeE l l.length zL x y j b];rw[f] at b;rw[zdk (by simp[m];omega),zd6]
    by_cases c:j<l.length
    ·rw[zab c,zbb (by omega)]
    ·rw[zaa c,zab (by omega),zbp (by omega),m]
   ·refine zcl (Any2.slices_Insert_int_grow Znl g 0 l.length cap i w.heap.size 0 2 2 (Qr l) [.int .i64 x,.int .i64 y] W (by omega) (by omega) X (by omega) (by omega) m rfl J F Y D) ?_
    rintro e w' ⟨rfl,rfl⟩;rw[Q];have M:=zf7 W (l.length+2) cap 3;have E:=zen W (l.length+2) cap 3 (by unfold maxLen;omega)
    refine⟨_,rfl,?_,((z.made _ 0 0).drew.cells (n':=0) (c':=0) _ _).drew.cells _ _⟩;show Qs _ B (.slice (some ⟨W.heap.size,0,none⟩) (l.length+2) (grownCap W (l.length+2) cap 3)) _;generalize grownCap W (l.length+2) cap 3=q at *;have H:((Qr l).take i).length=i:=by simp[m];omega
    have O:((Qr l).drop i).length=l.length-i:=by simp[Qr]
    refine Qs.ofRowN f.symm (cur:=Zfm (Zfm (((Qr l).take i).toArray++Builtin.zeroCells (Value.int .i64 0).cells (l.length+2-i)++Builtin.zeroCells (Value.int .i64 0).cells (q-(l.length+2))) i [.int .i64 x,.int .i64 y]) (i+2) ((Qr l).drop i)) (by omega) (Xy _ _ _ _ _ _ (Xy _ _ _ _ _ _ (zaf W _))) (by omega) E ?_ (fun j b=>?_)
    ·rw[Xr,Xr]
     simp[zfd,p,H];omega
    ·rw[ZeE l i L x y j b]
     rw[f] at b
     have ag:(((Qr l).take i).toArray++Builtin.zeroCells (Value.int .i64 0).cells (l.length+2-i)++Builtin.zeroCells (Value.int .i64 0).cells (q-(l.length+2))).size=q:=by
      simp[zfd,p,H];omega
     rw[Yq _ _ _ _ (by rw[Xr];omega),Yq _ _ _ _ (by omega),O]
     by_cases c:j<i
     ·rw[zaa (by omega),zaa (by omega),zab c,zdk (by simp[zfd,p,H];omega),zdk (by simp[H];omega),zd6,zb3 c]
     ·by_cases A:j<i+2
      ·rw[zaa (by omega),zab (by simp;omega),zaa c,zab A]
      ·rw[zab (by omega),zaa c,zaa A,zem]
       congr 1
       omega
theorem Xn.row (h:Xn w B v l):(v=.slice none 0 0∧l=[])∨
 ∃ g cap cur,v=.slice (some ⟨g,0,none⟩) l.length cap∧B<=g∧g<w.heap.size∧w.heap[g]?=some (.cells cur 85 (0,0))∧l.length<=cap∧cap<=maxLen∧cur.size=cap*3∧∀ j,j<l.length*3->cur[j]?=(Qg l)[j]?:=by
 rcases h.2 with ⟨a,f⟩ | ⟨g,cap,cur,a,i,b,m,d,c,n⟩
 ·have e:l=[]:=eq_nil_of_length_eq_zero f
  subst e;exact .inl ⟨a,rfl⟩
 ·refine .inr ⟨g,cap,cur,a,i,(zan.1 b).1,b,m,d,c,fun j k=>?_⟩
  rw[<-n,zb3 k,zby]
theorem Xn.ofRow (k:n=l.length) (f:B<=g) (c:w.heap[g]?=some (.cells cur 85 (0,0))) (e:l.length<=cap) (i:cap<=maxLen) (b:cur.size=cap*3) (d:∀ j,j<l.length*3->cur[j]?=(Qg l)[j]?):
 Xn w B (.slice (some ⟨g,0,none⟩) n cap) l:=by
 subst k;refine⟨by rw[Xh],.inr ⟨g,cap,cur,rfl,f,c,e,i,b,?_⟩⟩
 apply zet;intro j;by_cases a:j<l.length*3
 ·rw[zb3 a,zby]
  exact d j a
 ·rw[zbw (by simp;omega),zbw (by rw[Xh];omega)]
theorem Xn.empty (w:World) (B:Nat) (b:B<=w.heap.size):Xn (w.alloc (.cells #[] 85)) B (.slice (some ⟨w.heap.size,0,none⟩) 0 0) []:=
 Xn.ofRow (l:=[]) rfl b (zaf w _) zL (zai _) rfl (fun j a=>absurd a (by simp))
theorem Zcf:∀ (l:List Ent) (i:Nat),Qg (l.take i)=(Qg l).take (i*3)
 | l,0=>by simp[Qg]
 | [],i+1=>by simp[Qg]
 | x::t,i+1=>by
  rw[zdg,show(i+1)*3=i*3+1+1+1 by omega]
  show Value.int .i64 x.proc::.int .i64 x.seq::.int .i64 x.resp::Qg (t.take i)=(Value.int .i64 x.proc::.int .i64 x.seq::.int .i64 x.resp::Qg t).take (i*3+1+1+1);rw[Zcf t i];rfl
theorem Zcg:∀ (l:List Ent) (i:Nat),Qg (l.drop i)=(Qg l).drop (i*3)
 | l,0=>by simp
 | [],i+1=>by simp[Qg]
 | x::t,i+1=>by
  rw[ze4,show(i+1)*3=i*3+1+1+1 by omega]
  show Qg (t.drop i)=(Value.int .i64 x.proc::.int .i64 x.seq::.int .i64 x.resp::Qg t).drop (i*3+1+1+1);rw[Zcg t i];rfl
theorem Xn.cut (h:Xn w B (.slice (some ⟨g,0,none⟩) n cap) l) (i:Nat) (m:i<=l.length):Xn w B (.slice (some ⟨g,0,none⟩) i cap) (l.take i):=by
 rcases h.row with ⟨a,-⟩ | ⟨g',t,cur,a,c,p,d,q,k,f,b⟩
 ·cases a
 ·injection a with a h2 h3
  injection a with a
  injection a with a
  subst a h3
  exact Xn.ofRow (by rw[length_take];omega) c d (by rw[length_take];omega) k f (fun j e=>by
   rw[length_take] at e
   rw[b j (by omega),Zcf,zb3 (by omega)])
theorem Xn.cells (h:Xn w B (.slice (some ⟨g,0,none⟩) n cap) l) (o:Nat) (p:l.length*3<=o) (vs:List Value):Xn (w.setCells g o vs) B (.slice (some ⟨g,0,none⟩) n cap) l:=by
 rcases h.row with ⟨a,-⟩ | ⟨g',q,cur,a,c,m,d,f,k,i,b⟩
 ·cases a
 ·injection a with a h2 h3
  injection a with a
  injection a with a
  subst a h3
  exact Xn.ofRow h2 c (Xy g _ vs o w cur d) f k (by rw[Xr];exact i) (fun j e=>by
   rw[Yq _ _ _ _ (by omega),zaa (by omega)]
   exact b j e)
theorem Xn.put (h:Xn w B (.slice (some ⟨g,0,none⟩) n cap) l) (i:Nat) (m:i<l.length) (e:Ent):Xn (w.setCells g (i*3) (Qg [e])) B (.slice (some ⟨g,0,none⟩) n cap) (l.set i e):=by
 rcases h.row with ⟨a,-⟩ | ⟨g',A,cur,a,f,z,p,u,y,x,d⟩
 ·cases a
 ·injection a with a h2 h3
  injection a with a
  injection a with a
  subst a h3;have v:(Qg [e]).length=3:=Xh [e];refine Xn.ofRow (by rw[length_set];exact h2) f (Xy g _ _ _ w cur p) (by rw[length_set];exact u) y (by rw[Xr];exact x) (fun j t=>?_)
  rw[length_set] at t;obtain⟨q,k,b,rfl⟩:∃ q k,k<3∧j=q*3+k:=⟨j / 3,j % 3,zfx _ (by decide),by omega⟩
  rw[Yq _ _ _ _ (by omega),v,Zv (l.set i e) q k (by rw[length_set];omega) b]
  by_cases c:q=i
  ·subst c
   rw[zab (by omega),show q*3+k-q*3=0*3+k by omega,Zv [e] 0 k (by simp) b]
   congr 2
   simp[List.getD,m]
  ·rw[zaa (by omega),d _ (by omega),Zv l q k (by omega) b]
   congr 2
   have:¬ i=q:=fun h=>c h.symm
   simp[List.getD,this]
theorem RdE.cells {a:Addr} (h:RdE w (.slice (some a) n cap) l):∀ j u,(Qg l)[j]?=some u->w.cell? (a.add j)=some u:=by
 obtain⟨ao,c,g,B,y,A,z,f⟩:=h
 injection g with g _ _
 subst g;intro j u d;have m:j<l.length*3:=by rw[<-Xh];exact(zbm.1 d).1
 rcases f with f | ⟨b,C,e,v⟩
 ·rw[f] at m
  simp at m
 ·injection e with e
  subst e;obtain⟨q,k,i,rfl⟩:∃ q k,k<3∧j=q*3+k:=⟨j / 3,j % 3,zfx _ (by decide),by omega⟩
  rw[Zv l q k (by omega) i] at d
  obtain⟨p,t,x⟩:=v q (by omega)
  rw[zbg,<-zbs]
  match k,i with
  | 0,_=>exact p.trans d
  | 1,_=>exact t.trans d
  | 2,_=>exact x.trans d
theorem Zid (w:World) (ty:TypeId) (B:Nat) (v:Value) (l:List Ent) (h:Xn w B v l) (d:Value) (m:List Ent) (g:RdE w d m) (D:l.length+m.length<=1000000) (c:B<=w.heap.size):
 ∃ v' w',(Builtin.append_ #[39,39] ty #[v,d]).run prog w=.ok v' w'∧Xn w' B v' (l++m)∧Below B w w':=by
 obtain⟨e,f,i,j,z⟩:=zbo ZgV;have u:=g;obtain⟨ao,cap,rfl,A,C,t,E,F⟩:=g
 cases ao with
 | none=>
  have x:=t rfl;subst x;have q:m=[]:=eq_nil_of_length_eq_zero (by omega)
  subst q;have b:=zc5 (P:=prog) w B 39 ty 85 e 3 underlying39 f v l.length (Qg l) h;exact⟨v,w,b,by rw[append_nil];exact h,zac _ _⟩
 | some a=>
  obtain⟨v',w',b,y,p,_⟩:=zdc (P:=prog) w B 39 ty 85 e _ 3 24 underlying39 f i j z rfl (by decide) v l.length (Qg l) h
   a m.length cap (Qg m) (Xh m) u.cells (Zac m) (by unfold maxLen;omega) (by omega) c
  refine⟨v',w',b,?_,?_⟩
  ·unfold Xn
   rw[length_append,Zaz];exact y
  ·exact(zac _ _).grown p c (fun k n=>(zar h k n).1)
theorem Zal (w:World) {c:Array Oper} {rest:List Oper} {o:Oper} {a:Act} {Q:Exit->Act->World->Prop} (f:o.guard=none) (s x:Operand)
 (p:o.op=.call { callee:=.builtin .append,args:=#[s,x],argTypes:=#[39,39] })
 (B:Nat) (v:Value) (l:List Ent) (q:a.eval s=v) (k:Xn w B v l) (b:Value) (m:List Ent) (u:a.eval x=b) (j:RdE w b m)
 (g:l.length+m.length<=1000000) (e:B<=w.heap.size)
 (h:∀ v' w',Xn w' B v' (l++m)->Below B w w'->wpList prog c Q rest (a.put o.dst v') w'):wpList prog c Q (o::rest) a w:=
 zbr f fun _ t=>by
  obtain⟨v',w',n,i,d⟩:=Zid w o.type B v l k b m j g e;unfold Oper.wp execOp;simp only [p,resolve,invoke,builtin,zbk,zbn,za7,zc8,map_cons,map_nil,q,u,n];exact t _ _ (h v' w' i d)
theorem ZfJ (v:Value) (l:List Ent) (w:World) (f:RdE w v l) (q:l.length<=1000000):
 Calls prog 40 #[v] w fun e w'=>∃ v',e=.returned v'∧Xn w' w.heap.size v' l∧Below w.heap.size w w':=by
 have k:=ZZ f;obtain⟨ao,cap,rfl,j,-,b,-⟩:=f
 cases ao with
 | none=>
  obtain rfl:cap=0:=b rfl;obtain rfl:l=[]:=eq_nil_of_length_eq_zero (by omega)
  clear b j;have p:∀ w,(binOp .eql 39 (.slice none 0 0) (.slice none 0 0)).run prog w=.ok (.bool true) w:=fun w=>zcu w _ _ none 0 0 underlying39
  go_enter func40,ntmps40
  go_wp2;go_ret;exact⟨_,rfl,Xn.nil _ _,zac _ _⟩
 | some a=>
  clear b;have p:∀ w,(binOp .eql 39 (.slice (some a) l.length cap) (.slice none 0 0)).run prog w=.ok (.bool false) w:=fun w=>zcu w _ _ (some a) _ _ underlying39
  have d:Hid (∀ X,Below w.heap.size w (w.alloc X)):=fun X=>(zac _ _).alloc zL X
  have i:Hid (Xn (w.alloc (.cells #[] 85)) w.heap.size (.slice (some ⟨w.heap.size,0,none⟩) 0 0) []):=ZZ (Xn.empty w _ zL)
  go_enter func40,ntmps40
  go_wp2_with(at_builtin;refine Zal _ rfl _ _ rfl w.heap.size _ [] rfl i.o _ l rfl (k.o.below (d.o _) zL) (by simp;omega) (by simp) ?_)
  intro u t c g;have m:=ZZ c;have n:=ZZ ((d.o _).trans g);clear c g;go_wp2;go_ret;exact⟨_,rfl,m.o,n.o⟩
def Zyj (p:Ent->Bool) (l:List Ent) (k:Int):Prop:=(k=-1∧∀ j,j<l.length->p (l.getD j Xi)=false)∨∃ i:Nat,k=(i:Int)∧i<l.length∧(∀ j,j<i->p (l.getD j Xi)=false)∧p (l.getD i Xi)=true
theorem Zdt (g R:Nat) (p:Ent->Bool) (v:Value) (l:List Ent) (w:World) (E:RdE w v l)
 (U:∀ args W,(callFunc g args).run prog W=.ok (.enter g args) W)
 (K:∀ W e,Below w.heap.size w W->Calls prog g #[Zsj e,.pointer (some ⟨R,0,none⟩)] W fun x w'=>x=.returned (.bool (p e))∧Below W.heap.size W w'):
 Calls prog 87 #[v,.func (.func g) #[] #[.pointer (some ⟨R,0,none⟩)]] w fun x w'=>∃ k:Int,x=.returned (.int .i64 k)∧Zyj p l k∧Below w.heap.size w w':=by
 have N:=ZZ E;have I:=ZZ K;obtain⟨Y,V,rfl,M,C,-,-,G⟩:=E;have L:=ZZ G;have ab:(l.length:Int)<=9223372036854775807:=by unfold maxLen at C;omega
 clear K M C G
 go_enter func87,ntmps87
 go_wp2
 go_loopw[8] (fun t wr=>∃ q:Nat,t=.int .i64 (q:Int)∧q<=l.length∧Hid (∀ j,j<q->p (l.getD j Xi)=false)∧Hid (Below w.heap.size w wr)) (fun t _=>l.length-(intOf t).toNat)
 case atStart=>exact⟨0,rfl,zai _,ZZ (fun j f=>absurd f (zcj _)),zac _ _⟩
 case round=>
  obtain⟨q,rfl,Z,n,c⟩:=hrel;by_cases d:q<l.length
  case neg=>
   obtain rfl:q=l.length:=by omega
   go_wp2;go_ret;exact⟨-1,rfl,.inl ⟨rfl,n.out⟩,c.out⟩
  have S:(q:Int)<(l.length:Int):=by omega
  rcases L.o with P | ⟨b,aa,rfl,y⟩
  ·rw[P] at d;simp at d
  obtain⟨z,D,F⟩:=(y q d).keep (c.out.block b (y q d).lt);have a:=ZZ (I.o wr (l.getD q Xi) c.out);have O:Hid (∀ j,j<q+1->j=q∨j<q):=ZZ (fun j f=>by omega)
  obtain⟨e,i⟩:=zgy (l.getD q Xi);rw[<-i] at a z D F;have A:=ZZ i;obtain⟨m,u⟩:=zgy (p e);rw[<-u] at a;have B:=ZZ u;clear i y I L N u;unfold Zsj at a;obtain⟨T,Q,X⟩:=e;simp only at a z D F
  go_wp2_with fail
  refine a.o.mono ?_;rintro x W1 ⟨rfl,J⟩;have H:=ZZ (c.out.trans (J.mono c.out.size));clear J a
  cases m with
  | true=>
   go_wp2;go_ret;exact⟨(q:Int),rfl,.inr ⟨q,rfl,d,n.out,by rw[<-A.o];exact B.o.symm⟩,H.o⟩
  | false=>
   go_wp2;go_roundw
   case rel=>exact⟨q+1,by go_num,by omega,ZZ (fun j f=>by
    rcases O.o j f with h | h
    ·rw[h,<-A.o];exact B.o.symm
    ·exact n.out j h),H⟩
   case measure=>simp[intOf];omega
theorem ZdQ (p:Ent->Bool) (l:List Ent) (j:Nat) (a:j<l.length):(l.take (j+1)).filter (fun e=>!p e)=(l.take j).filter (fun e=>!p e)++if p (l.getD j Xi)=true then[] else[l.getD j Xi]:=by
 have b:l.take (j+1)=l.take j++[l.getD j Xi]:=by
  rw[zb4,za3 a];simp[List.getD,a]
 rw[b,zeo]
 congr 1
 generalize l.getD j Xi=x
 cases h:p x <;> simp[h]
theorem Zie (p:Ent->Bool) (l:List Ent) (i:Nat) (c:i<=l.length) (h:∀ j,j<i->p (l.getD j Xi)=false):(l.take i).filter (fun e=>!p e)=l.take i:=by
 rw[zdz];intro e b;obtain⟨j,a,rfl⟩:=zdh b;rw[length_take] at a;have:=h j (by omega)
 rw[List.getElem_take];simp only [List.getD,za3 (show j<l.length by omega),zgn] at this
 simp[this]
def ZgF (p:Ent->Bool) (l L:List Ent) (i j:Nat):Prop:=L.length=l.length∧L.take i=(l.take j).filter (fun e=>!p e)∧L.drop j=l.drop j∧i<j
theorem ZgF.start (b:i<l.length) (h:∀ j,j<i->p (l.getD j Xi)=false) (a:p (l.getD i Xi)=true):ZgF p l l i (i+1):=by
 refine⟨rfl,?_,rfl,zey _⟩;rw[ZdQ p l i b,zab a,append_nil,Zie p l i (by omega) h]
theorem ZgF.at (h:ZgF p l L i j):L.getD j Xi=l.getD j Xi:=by
 obtain⟨e,f,a,d⟩:=h;have c:(L.drop j).getD 0 Xi=L.getD j Xi:=by simp[List.getD]
 have b:(l.drop j).getD 0 Xi=l.getD j Xi:=by simp[List.getD]
 rw[<-c,<-b,a]
theorem Znm (h:L.drop j=l.drop j):L.drop (j+1)=l.drop (j+1):=by
 rw[<-drop_drop,<-drop_drop,h]
theorem ZgF.skip (h:ZgF p l L i j) (b:j<l.length) (c:p (l.getD j Xi)=true):ZgF p l L i (j+1):=by
 obtain⟨d,e,a,f⟩:=h;refine⟨d,?_,Znm a,by omega⟩
 rw[ZdQ p l j b,zab c,append_nil,e]
theorem ZgF.keep (h:ZgF p l L i j) (b:j<l.length) (c:p (l.getD j Xi)=false):ZgF p l (L.set i (l.getD j Xi)) (i+1) (j+1):=by
 obtain⟨d,e,a,f⟩:=h;refine⟨by rw[length_set,d],?_,?_,by omega⟩
 ·rw[ZdQ p l j b,zaa (by rw[c];simp),<-e,zb4,zf2 zL]
  congr 1
  rw[List.getElem?_set_self (by omega)]
  rfl
 ·rw[List.drop_set_of_lt (by omega)]
  exact Znm a
theorem Xn.put3 (h:Xn w B (.slice (some ⟨g,0,none⟩) n cap) l) (i:Nat) (j:i<l.length) (p s r:Int) (b a c:Nat) (d:b=i*3) (e:a=i*3+1) (f:c=i*3+2):
 Xn (((w.setCell ⟨g,b,none⟩ (.int .i64 p)).setCell ⟨g,a,none⟩ (.int .i64 s)).setCell ⟨g,c,none⟩ (.int .i64 r)) B (.slice (some ⟨g,0,none⟩) n cap) (l.set i ⟨p,s,r⟩):=by
 subst d e f;exact h.put i j ⟨p,s,r⟩
theorem Xn.ent (h:Xn w B (.slice (some ⟨g,0,none⟩) n cap) l) (i:Nat) (f:i<l.length):Znf w g (i*3) (l.getD i Xi)∧(∀ k,w.frozen? ⟨g,k,none⟩=false)∧B<=g∧l.length<=cap∧cap<=maxLen∧n=l.length:=by
 rcases h.row with ⟨a,-⟩ | ⟨g',u,cur,a,e,q,c,m,p,t,d⟩
 ·cases a
 ·injection a with a h2 h3
  injection a with a
  injection a with a
  subst a h3
  have b:∀ k,k<3->w.cell? ⟨g,i*3+k,none⟩=(Gq (l.getD i Xi))[k]?:=fun k j=>by
   rw[zam w g (i*3+k) _ _ _ c,d _ (by omega),Zv l i k f j]
  exact⟨⟨b 0 (by decide),b 1 (by decide),b 2 (by decide)⟩,fun k=>za2 w g k _ _ c,e,m,p,h2⟩
theorem Zpi {C:Nat} {b:World} (h:Below C b w) (R:Nat) (a:C<=R) (d c g:Nat) (i f e:Value):Below C b (((w.setCell ⟨R,d,none⟩ i).setCell ⟨R,c,none⟩ f).setCell ⟨R,g,none⟩ e):=
 ((h.setCell a _).setCell a _).setCell a _
theorem ZlA (w:World):(zeroValue 85).run prog w=.ok (.agg #[.int .i64 0,.int .i64 0,.int .i64 0]) w:=Tryz.zeroValue85 w
theorem Zif (g R:Nat) (p:Ent->Bool) (v:Value) (l:List Ent) (B:Nat) (w:World) (F:Xn w B v l) (hI:∀ e ∈ l,Zlx e) (Y:B<=w.heap.size) (am:l.length<=1000000)
 (eg:∀ args W,(callFunc g args).run prog W=.ok (.enter g args) W)
 (M:∀ W e,Below B w W->Calls prog g #[Zsj e,.pointer (some ⟨R,0,none⟩)] W fun x w'=>x=.returned (.bool (p e))∧Below W.heap.size W w'):
 Calls prog 86 #[v,.func (.func g) #[] #[.pointer (some ⟨R,0,none⟩)]] w fun x w'=>∃ v',x=.returned v'∧Xn w' B v' (l.filter (fun e=>!p e))∧Below B w w':=by
 have HO:=ZZ F;have HP:=ZZ M;have ac:=ZZ (Zdt g R p v l w (F.rd hI) eg (fun W e h=>M W e (h.mono Y)))
 obtain⟨va,a,hv⟩:=F.shape;subst hv;clear F M
 go_enter func86,ntmps86
 go_wp2_with fail
 refine ac.o.mono ?_;rintro x W0 ⟨k,rfl,c,K⟩;have J:=ZZ (K.mono Y);have A:=ZZ (HO.o.below K zL);clear ac K HO;rcases c with ⟨rfl,c⟩ | ⟨P,rfl,S,c,ai⟩
 ·have HE:Hid (l.filter (fun e=>!p e)=l):=ZZ (by
   have:=Zie p l l.length zL c
   rwa [take_length] at this)
  clear c;go_wp2;go_ret;exact⟨_,rfl,by rw[HE.o];exact A.o,J.o⟩
 have ab:=ZZ (ZgF.start S c ai);clear c ai;rcases A.o.row with ⟨-,h2⟩ | ⟨d,cap,cur,Q,Z,-,-,ax,aj,-,-⟩
 ·rw[h2] at S;simp at S
 injection Q with Q _ h3
 subst Q h3;have aA:(l.length:Int)<=1000000:=by omega
 clear cur aj;have ei:((P:Int) == -1)=false:=zad.2 (by omega)
 go_wp2
 go_loopw[5,6] (fun v5 U wr=>∃ (i j:Nat) (L:List Ent),v5=.int .i64 (i:Int)∧U=.int .i64 (j:Int)∧i<j∧j<=l.length∧Hid (Xn wr B (.slice (some ⟨d,0,none⟩) l.length a) L)∧Hid (ZgF p l L i j)∧Hid (Below B w wr)) (fun _ U _=>l.length-(intOf U).toNat)
 case atStart=>exact⟨P,P+1,l,rfl,by go_num,by omega,by omega,A,ab,J⟩
 case round=>
  clear A ab J ei;obtain⟨i,j,L,rfl,rfl,ap,al,n,b,u⟩:=hrel;by_cases aa:j<l.length
  case neg=>
   obtain rfl:j=l.length:=by omega
   have hL:L.length=l.length:=b.out.1;have HT:Hid (L.take i=l.filter (fun e=>!p e)):=ZZ (by rw[b.out.2.1,take_length])
   have hE:=(n.out.ent i (by omega)).2.1
   have HK:Hid (∀ ty,(Builtin.clear_ #[39] ty #[.slice (some ⟨d,i*3,none⟩) (l.length-i) (a-i)]).run prog wr=.ok (.tuple #[]) (wr.setCells d (i*3) (Zbu (l.length-i)))):=ZZ (fun ty=>
    Zia wr _ _ _ underlying39 ZlA d (i*3) (l.length-i) (a-i) (by omega) (fun k hk=>by
     obtain⟨q,r,hr,rfl⟩:∃ q r,r<3∧k=q*3+r:=⟨k / 3,k % 3,zfx _ (by decide),by omega⟩
     have:=(n.out.ent (i+q) (by omega)).1
     rw[show i*3+(q*3+r)=(i+q)*3+r by omega]
     match r,hr with
     | 0,_=>rw[show(i+q)*3+0=(i+q)*3 from rfl,this.1];rfl
     | 1,_=>rw[this.2.1];rfl
     | 2,_=>rw[this.2.2];rfl) (fun k _=>hE _))
   have ae:=ZZ ((n.out.cut i (by omega)).cells (i*3) (by rw[length_take];omega) (Zbu (l.length-i)))
   rw[HT.o] at ae;have ak:=ZZ (Gy Z (Zbu (l.length-i)) (i*3) wr u.out);have an:¬ (a=i):=by omega
   have z:(i:Int)<=(l.length:Int):=by omega
   have ay:(i:Int)<=(a:Int):=by omega
   have aq:i<=l.length:=by omega
   have az:i<=a:=by omega
   clear hE;have hK:=HK.o;go_wp2;go_ret;exact⟨_,rfl,ae.o,ak.o⟩
  have ar:(j:Int)<(l.length:Int):=by omega
  have au:L.length=l.length:=b.out.1;obtain⟨⟨D,G,H⟩,-,-⟩:=n.out.ent j (by omega)
  rw[b.out.at] at D G H;have T:=ZZ (b.out.skip aa);have E:=ZZ (b.out.keep aa);obtain⟨e,he⟩:=zgy (l.getD j Xi);rw[<-he] at D G H T E;obtain⟨O,ag⟩:=zgy (p e);have y:=ZZ (fun W h=>HP.o W e h)
  rw[<-ag] at y T E;obtain⟨m,f,t⟩:=e;unfold Zsj at y;simp only at y D G H E;clear he ag b;have I:Hid (∀ X,Below B w (wr.alloc X)):=ZZ (fun X=>u.out.alloc (zas Y u.out.size) X)
  have HX:Hid (Be (wr.alloc (.cells #[.int .i64 m,.int .i64 f,.int .i64 t] 85)) wr.heap.size #[.int .i64 m,.int .i64 f,.int .i64 t]):=ZZ (zaf wr _);have ad:Hid (∀ X,Xn (wr.alloc X) B (.slice (some ⟨d,0,none⟩) l.length a) L):=ZZ (fun X=>n.out.below ((zac _ _).alloc zL X) zL)
  go_wp2_with fail
  refine(y.o _ (I.o _)).mono ?_;rintro x W1 ⟨rfl,z⟩;have af:=ZZ ((I.o (.cells #[.int .i64 m,.int .i64 f,.int .i64 t] 85)).trans (z.mono (by have:=u.out.size;simp;omega)))
  have V:=ZZ (HX.o.below z zL);have N:=ZZ ((ad.o (.cells #[.int .i64 m,.int .i64 f,.int .i64 t] 85)).below z zL);clear z y I HX ad D G H n u
  cases O with
  | true=>
   go_wp2;go_roundw
   case rel=>exact⟨i,j+1,L,rfl,by go_num,by omega,by omega,N,ZZ (T.o (by simp)),af⟩
   case measure=>simp[intOf];omega
  | false=>
   obtain⟨⟨d0,d1,d2⟩,C,aw,-⟩:=N.o.ent i (by omega)
   obtain⟨b0,f0⟩:=V.o.cell 0;obtain⟨b1,f1⟩:=V.o.cell 1;obtain⟨b2,f2⟩:=V.o.cell 2;have z0:=C (i*3);have z1:=C (i*3+1);have z2:=C (i*3+2);have ao:(i:Int)<(l.length:Int):=by omega
   have av:i<l.length:=by omega
   clear C;go_wp2;go_roundw
   case rel=>exact⟨i+1,j+1,L.set i ⟨m,f,t⟩,by go_num,by go_num,by omega,by omega,ZZ (N.o.put3 i (by omega) m f t _ _ _ (by omega) (by omega) (by omega)),ZZ (E.o (by simp)),ZZ (Zpi af.o d Z _ _ _ _ _ _)⟩
   case measure=>simp[intOf];omega
theorem RdE.one (w:World) (e:Ent) (c:Zlx e):RdE (w.alloc (.cells (Gq e) 85)) (.slice (some ⟨w.heap.size,0,none⟩) 1 1) [e]:=by
 have h:=Xn.ofRow (w:=w.alloc (.cells (Gq e) 85)) (B:=w.heap.size) (g:=w.heap.size) (cap:=1) (l:=[e]) (n:=1) rfl zL (zaf w _) zL (by unfold maxLen;decide) rfl (fun j a=>by
  rw[zcm] at a
  match j,a with
  | 0,_=>rfl
  | 1,_=>rfl
  | 2,_=>rfl)
 exact h.rd (fun x b=>by rw[zaq.1 b];exact c)
theorem Zkr (l:List Ent) (i:Nat) (q:i<=l.length) (e:Ent) (f:Nat->Option Value) (c:∀ j,j<i*3->f j=(Qg l)[j]?) (k:∀ j,j<3->f (i*3+j)=(Qg [e])[j]?)
 (b:∀ j,j<(l.length-i)*3->f ((i+1)*3+j)=(Qg (l.drop i))[j]?) (j:Nat) (n:j<(l.length+1)*3):f j=(Qg (l.take i++(e::l.drop i)))[j]?:=by
 have d:l.take i++(e::l.drop i)=l.take i++([e]++l.drop i):=rfl;have m:(Qg (l.take i)).length=i*3:=by rw[Xh,length_take];congr 1;omega
 have g:(Qg [e]).length=3:=Xh [e];rw[d,Zaz,Zaz];by_cases a:j<i*3
 ·rw[zbb (by omega),c j a,Zcf,zb3 a]
 ·rw[zbp (by omega),m]
  by_cases p:j<i*3+3
  ·rw[zbb (by omega),<-k (j-i*3) (by omega)]
   congr 1
   omega
  ·rw[zbp (by omega),g,<-b (j-i*3-3) (by omega)]
   congr 1
   omega
theorem ZaZ (l:List Ent) (i:Nat) (a:i<=l.length) (e:Ent):(l.take i++(e::l.drop i)).length=l.length+1:=by simp;omega
def Zzs (w:World) (B:Nat) (L:List Ent) (x:Ending) (w':World):Prop:=∃ v',x=.returned v'∧Xn w' B v' L∧Below B w w'
theorem Zpj (v:Value) (l:List Ent) (B:Nat) (w:World) (c:Xn w B v l) (q:B<=w.heap.size) (G:l.length<=100000) (e:Ent) (t:Zlx e) (I:Int) (E:I=(l.length:Nat)) (N:Nat) (y:N=w.heap.size):
 Calls prog 88 #[v,.int .i64 I,.slice (some ⟨N,0,none⟩) 1 1] (w.alloc (.cells (Gq e) 85)) fun x w'=>Zzs w B (l.take l.length++(e::l.drop l.length)) x w':=by
 subst E y;have d:Hid (l.take l.length++(e::l.drop l.length)=l++[e]):=ZZ (by rw[take_length,zez])
 rw[d.o];have j:=ZZ (RdE.one w e t);have k:Hid (∀ X,Below B w (w.alloc X)):=fun X=>(zac _ _).alloc q X
 have m:=ZZ (c.below ((zac w.heap.size w).alloc zL (.cells (Gq e) 85)) zL);have n:B<=(w.alloc (.cells (Gq e) 85)).heap.size:=by simp;omega
 rcases c.row with ⟨rfl,rfl⟩ | ⟨g,cap,cur,rfl,F,H,u,J,p,A,z⟩
 ·clear c d
  go_enter func88,ntmps88
  go_wp2_with(at_builtin;refine Zal _ rfl _ _ rfl B _ [] rfl m.o _ [e] rfl j.o (by simp) n ?_)
  intro D C a b;have f:=ZZ a;have i:=ZZ ((k.o _).trans b);clear a b;go_wp2;go_ret;exact⟨_,rfl,f.o,i.o⟩
 ·have M:(cap:Int)<=9223372036854775807:=by unfold maxLen at p;omega
  have K:(l.length:Int)<=(cap:Int):=by omega
  clear c d z u A p;by_cases L:cap=l.length
  all_goals
   go_enter func88,ntmps88
   go_wp2_with(at_builtin;refine Zal _ rfl _ _ rfl B _ l rfl m.o _ [e] rfl j.o (by simp;omega) n ?_)
   intro D C a b;have f:=ZZ a;have i:=ZZ ((k.o _).trans b);clear a b;go_wp2;go_ret;exact⟨_,rfl,f.o,i.o⟩
theorem ZzE (w:World) (g N b a:Nat) (n:N≠g) (d c j i o:Nat) (l:w.shape? N=some (85,b)) (p:w.shape? g=some (85,a)) (m:a≠0) (f:∀ k,w.frozen? ⟨N,k,none⟩=false):
 (callFunc 129 #[.slice (some ⟨N,0,none⟩) d c,.slice (some ⟨g,o,none⟩) j i]).run prog w=.ok (.value (.bool false)) w:=by
 rw[run_callFunc_extern func129 (by kernel_rfl) (by kernel_rfl) (by kernel_rfl) (e:=Extern.SlicesOverlaps.overlaps #[39,39] #[4]) (by kernel_rfl),
  Lib.run_overlaps_apart w 39 4 85 underlying39 3 Tryz.sizeOf85 ⟨N,0,none⟩ ⟨g,o,none⟩ d c j i n _ _ b a l p m (f 0) (f b)]
 rfl
theorem ZgW:(prog.info? 85).map (·.size)=some 3:=by
 obtain⟨c,b,d,a,e⟩:=zbo ZgV;rw[b];simp[a]
theorem Znn (g cap:Nat) (l:List Ent) (B:Nat) (w:World) (U:Xn w B (.slice (some ⟨g,0,none⟩) l.length cap) l) (hB:B<=w.heap.size) (i:Nat) (hi:i<l.length) (ac:l.length+1<=cap) (e:Ent) (I:Int) (hI:I=(i:Nat)) (N:Nat) (O:N=w.heap.size):
 Calls prog 88 #[.slice (some ⟨g,0,none⟩) l.length cap,.int .i64 I,.slice (some ⟨N,0,none⟩) 1 1] (w.alloc (.cells (Gq e) 85)) fun x w'=>Zzs w B (l.take i++(e::l.drop i)) x w':=by
 subst hI;rcases U.row with ⟨d,-⟩ | ⟨g',az,cur,d,t,Z,S,hn,D,H,F⟩
 ·cases d
 injection d with d _ h3
 injection d with d
 injection d with d
 subst d h3;clear U;have p:(w.alloc (.cells (Gq e) 85)).heap[N]?=some (.cells (Gq e) 85 (0,0)):=by rw[O];exact zaf w _
 have f:(w.alloc (.cells (Gq e) 85)).heap[g]?=some (.cells cur 85 (0,0)):=(zao _ _ _ Z).trans S;have J:Hid (Below B w (w.alloc (.cells (Gq e) 85))):=(zac _ _).alloc hB _;generalize w.alloc (.cells (Gq e) 85)=W at *;have X:N≠g:=by omega
 have au:(cap:Int)<=9223372036854775807:=by unfold maxLen at D;omega
 have K:∀ (j:Nat),W.frozen? ⟨g,j,none⟩=false:=fun j=>za2 W g j _ _ f
 have ad:∀ C u E A o,(callFunc 129 #[.slice (some ⟨N,0,none⟩) C u,.slice (some ⟨g,o,none⟩) E A]).run prog W=.ok (.value (.bool false)) W:=fun C u E A o=>
  ZzE W g N 3 (cap*3) X C u E A o (by simp[World.shape?,p,Gq]) (by simp[World.shape?,f,H]) (by omega) (fun k=>za2 W N k _ _ p)
 have z:(Qg (l.drop i)).length=(l.length-i)*3:=by rw[Xh,length_drop]
 have T:∀ j,j<(l.length+1)*3->(W.cell? ⟨g,j,none⟩).isSome=true:=fun j a=>by
  rw[zam W g j _ _ _ f,zds (by omega)]
  rfl
 have Q:∀ W',(∀ x,W'.cell? x=W.cell? x)->(∀ x,W'.frozen? x=W.frozen? x)->∀ ty c sc,(Builtin.copy_ #[39,39] ty #[.slice (some ⟨g,(i+1)*3,none⟩) (l.length-i) c,.slice (some ⟨g,i*3,none⟩) (l.length+1-i) sc]).run prog W'=.ok (goInt (Nat.min (l.length+1-i) (l.length-i))) (W'.setCells g ((i+1)*3) (Qg (l.drop i))):=fun W' m y ty c sc=>
  ZaO W' _ _ ty 85 3 g ((i+1)*3) (l.length-i) c ⟨g,i*3,none⟩ (l.length+1-i) sc (Qg (l.drop i)) underlying39 ZgW (by rw[z];simp only [zgu];split <;> omega)
   (fun j v a=>by
    have Y:j<(l.length-i)*3:=by rw[<-z];exact(zbm.1 a).1
    rw[zbg,m,zam W g _ _ _ _ f,F _ (by omega)]
    rw[Zcg,zem] at a
    exact a)
   (fun j a=>by rw[m];exact T _ (by omega)) (fun j a=>by rw[y];exact K _) (Zac _)
 obtain⟨b,n⟩:=zgy (W.drew.setCells g ((i+1)*3) (Qg (l.drop i)));have q:b.heap[g]?=some (.cells (Zfm cur ((i+1)*3) (Qg (l.drop i))) 85 (0,0)):=by rw[n];exact Xy g _ _ _ W.drew cur f
 have V:b.heap[N]?=some (.cells (Gq e) 85 (0,0)):=by rw[n,Zar g _ _ _ N X];exact p
 have G:(Qg [e]).length=3:=Xh [e]
 have P:∀ W',(∀ x,W'.cell? x=b.cell? x)->(∀ x,W'.frozen? x=b.frozen? x)->∀ ty c,(Builtin.copy_ #[39,39] ty #[.slice (some ⟨g,i*3,none⟩) (l.length+1-i) c,.slice (some ⟨N,0,none⟩) 1 1]).run prog W'=.ok (goInt (Nat.min 1 (l.length+1-i))) (W'.setCells g (i*3) (Qg [e])):=fun W' m y ty c=>
  ZaO W' _ _ ty 85 3 g (i*3) (l.length+1-i) c ⟨N,0,none⟩ 1 1 (Qg [e]) underlying39 ZgW (by rw[G];simp only [zgu];split <;> omega)
   (fun j v a=>by
    rw[zbg,m,za5,zam b N _ _ _ _ V]
    have:(Qg [e])[j]?=(Gq e)[j]?:=by
     have Y:j<3:=by rw[<-G];exact(zbm.1 a).1
     have:=Zv [e] 0 j (by simp) Y
     rwa [zc3,za5] at this
    rw[<-this]
    exact a)
   (fun j a=>by
    rw[m,zam b g _ _ _ _ q,zds (by rw[Xr];omega)]
    rfl) (fun j a=>by rw[y];exact za2 b g _ _ _ q) (Zac _)
 have R:Hid (Zzs w B (l.take i++(e::l.drop i)) (.returned (.slice (some ⟨g,0,none⟩) (l.length+1) cap)) (b.setCells g (i*3) (Qg [e]))):=ZZ (by
  refine⟨_,rfl,Xn.ofRow (ZaZ l i (by omega) e).symm t (Xy g _ _ _ b _ q) (by rw[ZaZ l i (by omega) e];exact ac) D (by rw[Xr,Xr];exact H) (fun j a=>?_),?_⟩
  ·rw[ZaZ l i (by omega) e] at a
   refine Zkr l i (by omega) e (fun j=>(Zfm (Zfm cur ((i+1)*3) (Qg (l.drop i))) (i*3) (Qg [e]))[j]?) (fun k M=>?_) (fun k M=>?_) (fun k M=>?_) j a
   ·show(Zfm (Zfm cur ((i+1)*3) (Qg (l.drop i))) (i*3) (Qg [e]))[k]?=_
    rw[Yq _ _ _ _ (by rw[Xr];omega),zaa (by omega),Yq _ _ _ _ (by omega),zaa (by omega)]
    exact F k (by omega)
   ·show(Zfm (Zfm cur ((i+1)*3) (Qg (l.drop i))) (i*3) (Qg [e]))[i*3+k]?=_
    rw[Yq _ _ _ _ (by rw[Xr];omega),zab (by omega),zcf]
   ·show(Zfm (Zfm cur ((i+1)*3) (Qg (l.drop i))) (i*3) (Qg [e]))[(i+1)*3+k]?=_
    rw[Yq _ _ _ _ (by rw[Xr];omega),zaa (by omega),Yq _ _ _ _ (by omega),zab (by omega),zcf]
  ·rw[n]
   exact Gy t _ _ _ (Gy t _ _ _ (Zib J.o)))
 have aa:=fun ty c sc=>Q W.drew (fun _=>rfl) (fun _=>rfl) ty c sc
 have L:=fun ty c=>P b (fun _=>rfl) (fun _=>rfl) ty c
 clear Q P;rw[n] at R L;clear n q V F H S f p T K D J z G O;have av:prog.follows .mixedOrders=true:=by kernel_rfl
 have ab:¬ ((i:Int)=(l.length:Int)):=by omega
 have aw:((i:Int) == (l.length:Int))=false:=zad.2 ab;have ao:IntKind.i64.wrap ((i:Int)+1)=(i:Int)+1:=by rw[zbe];omega
 have ag:IntKind.i64.wrap ((l.length:Int)+1)=(l.length:Int)+1:=by rw[zbe];omega
 have ay:(0:Int)<=(i:Int)+1:=by omega
 have ar:i<=l.length:=by omega
 have af:(i:Int)<=(l.length:Int):=by omega
 have am:((i:Int)+1).toNat=i+1:=by omega
 have ae:((l.length:Int)+1).toNat=l.length+1:=by omega
 have aq:¬ (cap=i+1):=by omega
 have al:(i:Int)<=(l.length:Int)+1:=by omega
 have ax:¬ (cap=i):=by omega
 have ap:¬ ((cap:Int)<(l.length:Int)+1):=by omega
 have ai:(l.length:Int)+1<=(cap:Int):=by omega
 have an:(i:Int)+1<=(l.length:Int)+1:=by omega
 generalize Qg (l.drop i)=aj at *;generalize Qg [e]=ak at *;generalize l.take i++(e::l.drop i)=LL at *
 go_enter func88,ntmps88
 go_wp2_with(simp only [ad])
 go_region_law_o (refine step_copy_runI rfl _ _ 39 39 rfl _ _ (by simp[Act.eval,Act.put]) (by simp[Act.eval,Act.put]) (aa _ _ _) ?_)
 go_wp2_with(at_builtin;refine wpList_copy_runI _ rfl _ _ 39 39 rfl _ _ rfl rfl (L _ _) ?_)
 go_wp2;go_ret;exact R.o
end Go.Proofs.YtnahjngbneicaaaGreatDoor
