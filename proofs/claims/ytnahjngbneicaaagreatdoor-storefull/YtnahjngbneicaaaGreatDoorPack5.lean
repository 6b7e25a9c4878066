import Derived.Test.YtnahjngbneicaaaGreatDoorPack4
import Derived.Test.YtnahjngbneicaaaGreatDoorPack2
import Derived.Shelf.Slices.Empties2
import Derived.Shelf.Slices.Clone
import Derived.Shelf.Slices.Cells
import Derived.Shelf.Spec.SlicesInsertGrow
import Derived.Deep.DeepAppendWide
namespace Go.Proofs.YtnahjngbneicaaaGreatDoor
set_option linter.unusedSimpArgs false
open _root_.Go.Proofs.Tryz
open List (append_nil drop_drop eq_nil_of_length_eq_zero length_append length_cons length_drop length_set length_take map_cons map_nil mem_cons take_length)
set_option maxHeartbeats 4000000
set_option maxRecDepth 100000
open Go.RowKit
variable {L l:List Ent} {B B' N T b c cap g i j n o:Nat} {a w w':World} {v v':Value} {p:Ent->Bool} {d:Dk} {cs cur:Array Value} {e:Ent}
abbrev zah:=@beq_eq_false_iff_ne
abbrev zbg:=@List.getElem?_append_left
abbrev zbi:=@beq_iff_eq
abbrev zbq:=@bne_iff_ne
abbrev zbs:=@List.getElem?_append_right
abbrev zby:=@bne_eq_false_iff_eq
abbrev zb2:=@Array.getElem?_toList
abbrev zcc:=@List.getElem?_take_of_lt
abbrev zcf:=@Nat.add_sub_cancel_left
abbrev zcn:=@Go.run_sliceAt_slice
abbrev zcq:=@List.cons_append
abbrev zcv:=@Go.Calls.mono
abbrev zc1:=@List.map_append
abbrev zc2:=@Nat.add_zero
abbrev zc7:=@Nat.zero_mul
abbrev zdw:=@Array.getElem?_append_left
abbrev zd2:=@Array.getElem?_eq_getElem
abbrev zef:=@List.getElem?_toArray
abbrev zek:=@List.ext_getElem?
abbrev zeq:=@Nat.lt_succ_self
abbrev zex:=@List.getElem?_drop
abbrev zey:=@Go.grownCap_le_maxLen
abbrev zez:=@List.filter_append
abbrev ze6:=@Nat.sub_zero
abbrev ze9:=@List.drop_length
abbrev zfd:=@List.drop_succ_cons
abbrev zfn:=@Go.size_zeroCells
abbrev zfs:=@Go.run_slice_l
abbrev zge:=@List.replicate_succ
abbrev zgf:=@List.take_set_of_le
abbrev zgj:=@Go.grownCap_ge
abbrev zgy:=@Option.getD_some
abbrev zg4:=@Nat.min_def
abbrev zg5:=@UInt8.toNat_lt
def Cnt (l:List UInt8) (c:Nat):Prop:=
 (c=0∧∀ j,j<10->j<l.length->128<=(l.getD j 0).toNat)∨
 (1<=c∧c<=10∧c<=l.length∧(∀ j,j+1<c->128<=(l.getD j 0).toNat)∧(l.getD (c-1) 0).toNat<128)
theorem ZuT (v:Value) (l:List UInt8) (w:World) (z:Rd w v l):
 Calls prog 222 #[v] w fun e w'=>∃ c:Nat,e=.returned (.int .i64 (c:Int))∧Cnt l c∧w'=w:=by
 obtain⟨ao,cap,rfl,B,u,x,d⟩:=z;clear x;have G:(l.length:Int)<=9223372036854775807:=by unfold maxLen at u;omega
 by_cases H:(l.length:Int)<=10
 all_goals
  go_enter func222,ntmps222
  go_wp2
  go_loop [7] (fun i=>∃ k:Nat,i=.int .i64 k∧k<=10∧k<=l.length∧Hid (∀ j,j<k->128<=(l.getD j 0).toNat)) (fun i=>10-(intOf i).toNat)
  case atStart=>exact⟨0,rfl,by omega,by omega,fun j m=>by omega⟩
  case round=>
   obtain⟨k,rfl,A,E,f⟩:=hrel;by_cases q:k<10∧k<l.length
   ·obtain⟨q,n⟩:=q
    rcases d with d | ⟨b,C,rfl,g⟩
    ·subst d;simp at n
    ·have t:=g k n
     clear g;obtain⟨y,a⟩:=zg7 ((l.getD k 0).toNat);rw[<-a] at t;have p:Hid (y=(l.getD k 0).toNat):=a;clear a;by_cases F:(y:Int)<128
     ·go_wp2
      go_ret;refine⟨k+1,ZbV (by omega),.inr ⟨by omega,by omega,by omega,fun j m=>f.out j (by omega),?_⟩,rfl⟩
      rw[zdk,<-p.o];omega
     ·go_wp2
      go_round
      case rel=>
       refine⟨k+1,by go_num,by omega,by omega,fun j m=>?_⟩
       by_cases e:j=k
       ·rw[e,<-p.o];omega
       ·exact f.out j (by omega)
      case measure=>simp[intOf];omega
   ·go_wp2
    go_ret;exact⟨0,rfl,.inl ⟨rfl,fun j D I=>f.out j (by omega)⟩,rfl⟩
theorem Zsy {l:List UInt8} (h:Cnt l 0):Qe l=(0,0):=by
 rcases h with ⟨_,h⟩ | h
 ·unfold Qe
  rw[Zlu 10 l h]
 ·omega
theorem ZlL {l:List UInt8} (h:Cnt l (c+1)):c<10∧c<l.length∧(l.getD c 0).toNat<128∧
 dec 10 l=if 0<c∧(l.getD c 0).toNat=0 then none else some (val (l.take (c+1)),c+1):=by
 rcases h with h | ⟨i,g,f,d,b⟩
 ·omega
 ·have a:(l.getD c 0).toNat<128:=by simpa using b
  exact⟨by omega,by omega,a,Zuq c 10 l (by omega) (by omega) (fun j e=>d j (by omega)) a⟩
theorem ZdZ (l:List UInt8) (k:Nat) (h:k<=l.length):val (l.take k)<128 ^ k:=by
 have:=ZyK (l.take k)
 rwa [length_take,zcy h] at this
theorem ZuU {l:List UInt8} (h:Cnt l 10) (j:(l.getD 9 0).toNat≠1):Qe l=(0,0):=by
 obtain⟨k,i,f,c⟩:=ZlL h;unfold Qe;rw[c];by_cases b:(l.getD 9 0).toNat=0
 ·rw[zab ⟨by omega,b⟩]
 ·rw[zaa (fun e=>b e.2)]
  have a:=Zet l 9 i;have d:(l.getD 9 0).toNat % 128=(l.getD 9 0).toNat:=zdj f;rw[d] at a;have g:128 ^ 9=9223372036854775808:=by decide
  rw[g] at a;have:¬ val (l.take (9+1))<18446744073709551616:=by omega
  simp only [this,zfv]
theorem Zpt {l:List UInt8} (h:Cnt l (c+1)) (b:0<c) (a:(l.getD c 0).toNat=0):Qe l=(0,0):=by
 obtain⟨g,f,e,d⟩:=ZlL h;unfold Qe;rw[d,zab ⟨b,a⟩]
theorem Zsz {l:List UInt8} (h:Cnt l (c+1)) (j:c=9->(l.getD c 0).toNat=1) (i:0<c->(l.getD c 0).toNat≠0):
 Qe l=(val (l.take (c+1)),c+1)∧val (l.take (c+1))<18446744073709551616:=by
 obtain⟨p,k,m,f⟩:=ZlL h
 have b:val (l.take (c+1))<18446744073709551616:=by
  by_cases e:c=9
  ·subst e
   have a:=Zet l 9 k;have g:=ZdZ l 9 (by omega)
   rw[j rfl] at a;have d:128 ^ 9=9223372036854775808:=by decide
   rw[d] at a g;omega
  ·have a:=ZdZ l (c+1) (by omega)
   have n:128 ^ (c+1)<=128 ^ 9:=zel (by decide) (by omega)
   have d:128 ^ 9=9223372036854775808:=by decide
   omega
 refine⟨?_,b⟩;unfold Qe;rw[f,zaa (fun e=>i e.1 e.2)]
 simp only [b,zeu]
theorem ZyP (k y x:Nat) (d:k<64) (b:y<2 ^ k) (f:x*2 ^ k<18446744073709551616):
 bits .or .u64 (y:Int) (IntKind.u64.wrap ((x:Int)*2 ^ k))=((y+x*2 ^ k:Nat):Int):=by
 have e:((x:Int)*2 ^ k)=((x*2 ^ k:Nat):Int):=by simp
 have a:((2 ^ k:Nat):Int)=(2:Int) ^ k:=by simp
 have c:(2:Nat) ^ k<=2 ^ 64:=zel (by decide) (by omega)
 rw[e,wraps_u64 _ (by omega) (by omega),bits_join_low .u64 64 (by decide) wraps_u64 k (y:Int) ((x*2 ^ k:Nat):Int) (by omega) (by rw[<-a];omega) (by omega) (by omega) (by rw[<-a];simp) (by omega)]
 omega
theorem Zzq (l:List UInt8) (k:Nat) (d:k<l.length) (m:k<10) (i:k=9->(l.getD k 0).toNat % 128<=1):
 bits .or .u64 ((val (l.take k):Nat):Int) (IntKind.u64.wrap (((l.getD k 0).toNat:Int) % 128*2 ^ (7*k)))=((val (l.take (k+1)):Nat):Int):=by
 have a:=ZdZ l k (by omega)
 rw[Zet l k d,<-pow7];rw[<-pow7] at a;have e:(((l.getD k 0).toNat:Int) % 128)=(((l.getD k 0).toNat % 128:Nat):Int):=by omega
 rw[e];refine ZyP (7*k) _ _ (by omega) a ?_
 by_cases b:k=9
 ·have:=i b
  subst b;have f:2 ^ (7*9)=9223372036854775808:=by decide
  rw[f];omega
 ·have g:2 ^ (7*k)<=2 ^ 56:=zel (by decide) (by omega)
  have c:(l.getD k 0).toNat % 128<=127:=by omega
  have:=zgi c g;have j:127*2 ^ 56<18446744073709551616:=by decide
  omega
theorem Zkz (v:Value) (l:List UInt8) (w:World) (C:Rd w v l):
 Calls prog 207 #[v] w fun e w'=>e=.returned (.tuple #[.int .u64 ((Qe l).1:Nat),.int .i64 ((Qe l).2:Nat)])∧w'=w:=by
 have D:=ZuT v l w C;obtain⟨ao,cap,rfl,W,X,O,p⟩:=C;clear O;have G:=ZZ D;clear D
 go_enter func207,ntmps207
 go_wp2_with fail
 refine G.o.mono ?_;rintro e w' ⟨c,rfl,a,rfl⟩;have a:Hid (Cnt l c):=a;clear G
 cases c with
 | zero=>
  have H:Hid (Qe l=(0,0)):=Zsy a.out;go_wp2;go_ret2;exact⟨by rw[H.out];rfl,rfl⟩
 | succ c=>
  obtain⟨Y,F,N,Q⟩:=ZlL a.out;clear Q;rcases p with p | ⟨b,aa,rfl,q⟩
  ·subst p;simp at F
  have B:=q c F;obtain⟨y,n⟩:=zg7 ((l.getD c 0).toNat);rw[<-n] at B N;have d:Hid (y=(l.getD c 0).toNat):=n;have R:=ZZ q;clear n q;by_cases j:(c=9∧y≠1)∨(0<c∧y=0)
  ·have H:Hid (Qe l=(0,0)):=by
    rcases j with ⟨g,J⟩ | ⟨M,S⟩
    ·subst g
     exact ZuU a.out (by rw[<-d.o];exact J)
    ·exact Zpt a.out M (by rw[<-d.o];exact S)
   by_cases g:c=9
   ·have f:(((c:Int)+1) == 10)=true:=zbi.2 (by omega)
    have K:((y:Int) != 1)=true:=by rw[zbq];omega
    clear j g;go_wp2;go_ret2;exact⟨by rw[H.out];rfl,rfl⟩
   ·have f:(((c:Int)+1) == 10)=false:=zah.2 (by omega)
    have t:(1:Int)<(c:Int)+1:=by omega
    have E:((y:Int) == 0)=true:=zbi.2 (by omega)
    clear j g;go_wp2;go_ret2;exact⟨by rw[H.out];rfl,rfl⟩
  ·have H:Hid (Qe l=(val (l.take (c+1)),c+1)∧val (l.take (c+1))<18446744073709551616):=Zsz a.out (fun h=>by rw[<-d.o];omega) (fun h=>by rw[<-d.o];omega)
   have hw3:(c=9∧y=1)∨c=0∨(0<c∧c<9∧y≠0):=by omega
   have P:Hid (c=9->y=1):=fun h=>by omega
   clear j;rcases hw3 with hw3 | hw3 | hw3
   all_goals
    first
     | (have f:(((c:Int)+1) == 10)=true:=zbi.2 (by omega)
        have K:((y:Int) != 1)=false:=by rw[zby];omega
        have t:(1:Int)<(c:Int)+1:=by omega
        have E:((y:Int) == 0)=false:=zah.2 (by omega))
     | (have f:(((c:Int)+1) == 10)=false:=zah.2 (by omega)
        have t:¬ (1:Int)<(c:Int)+1:=by omega)
     | (have f:(((c:Int)+1) == 10)=false:=zah.2 (by omega)
        have t:(1:Int)<(c:Int)+1:=by omega
        have E:((y:Int) == 0)=false:=zah.2 (by omega))
    clear hw3;have ez:(((c:Int)+1) == 0)=false:=zah.2 (by omega)
    go_wp2
    go_loop [5,35] (fun u i=>∃ k:Nat,k<=c+1∧i=.int .i64 k∧u=.int .u64 (val (l.take k):Nat)) (fun _ i=>c+1-(intOf i).toNat)
    case atStart=>exact⟨0,zap _,rfl,rfl⟩
    case round=>
     obtain⟨k,Z,rfl,rfl⟩:=hrel;by_cases ab:k<c+1
     ·have I:=R.o k (by omega)
      obtain⟨x,m⟩:=zg7 ((l.getD k 0).toNat);rw[<-m] at I;have ac:x<256:=by rw[m];exact zg5 _
      have T:=ZZ m;clear m;obtain⟨z,A⟩:=zg7 (val (l.take k));rw[<-A];have L:=ZZ A;clear A B;go_wp2
      go_round
      case rel=>
       refine⟨k+1,by omega,by go_num,?_⟩
       rw[L.o,T.o,Zzq l k (by omega) (by omega) (fun h=>?_)]
       have V:c=k:=by omega
       rw[<-V,<-d.o,P.o (by omega)]
       decide
      case measure=>simp[intOf];omega
     ·go_wp2
      go_ret2;have U:k=c+1:=by omega
      rw[H.out.1,U];exact⟨rfl,rfl⟩
theorem ZcH (v:Value) (l:List UInt8) (w:World) (g:Rd w v l):
 Calls prog 168 #[v] w fun e w'=>e=.returned (.tuple #[.int .i64 ((Qb l).1:Nat),.int .i64 ((Qb l).2:Nat)])∧w'=w:=by
 have a:=ZZ (Zkz v l w g);have H:Hid (Qb l=if(Qe l).1<4611686018427387904 then Qe l else(0,0)):=rfl
 generalize Qe l=d at *;obtain⟨u,k⟩:=d;obtain⟨U,b⟩:∃ U:Int,U=(u:Int):=⟨_,rfl⟩;simp only at a H;rw[<-b] at a;have j:0<=U:=by omega
 have c:=ZZ b;clear b;by_cases i:U<4611686018427387904
 ·go_enter func168,ntmps168
  go_wp2_with fail
  refine a.o.mono ?_;rintro e w' ⟨rfl,rfl⟩;go_wp2;go_ret2;have e:=H.out;have f:=c.o;rw[zab (by omega)] at e
  rw[e];exact⟨by rw[f];rfl,rfl⟩
 ·go_enter func168,ntmps168
  go_wp2_with fail
  refine a.o.mono ?_;rintro e w' ⟨rfl,rfl⟩;go_wp2;go_ret2;have e:=H.out;have f:=c.o;rw[zaa (by omega)] at e
  rw[e];exact⟨rfl,rfl⟩
theorem Zak (v:Value) (l:List UInt8) (w:World) (c:Rd w v l):
 Calls prog 201 #[v] w fun e w'=>e=.returned (.tuple #[.int .i64 (zag (Qe l).1),.int .i64 ((Qe l).2:Nat)])∧w'=w:=by
 have b:=ZZ (Zkz v l w c);have a:=Zlv l;have f:=Da l;generalize Qe l=d at *;obtain⟨u,k⟩:=d;simp only at b a f
 go_enter func201,ntmps201
 go_wp2_with fail
 refine b.o.mono ?_;rintro e w' ⟨rfl,rfl⟩
 go_wp2_with fail
 refine(Zzb u _ a).mono ?_;rintro e g ⟨rfl,rfl⟩;go_wp2;go_ret2;exact⟨rfl,rfl⟩
theorem Zgw:∀ (k v:Nat),Lib.leBytes (k+1) v=Lib.leBytes k v++[(v / 256 ^ k % 256).toUInt8]
 | 0,v=>by simp[Lib.leBytes]
 | k+1,v=>by
  have a:=Zgw k (v / 256);have e:v / 256 / 256 ^ k=v / 256 ^ (k+1):=by rw[Nat.div_div_eq_div_mul,zff,zfg]
  rw[Lib.leBytes,a,e];simp[Lib.leBytes]
def Zij (c k v:Nat):List UInt8:=Lib.leBytes k v++List.replicate (c-k) 0
theorem Znu (c k v:Nat) (h:k<=c):(Zij c k v).length=c:=by
 simp[Zij,zcz];omega
theorem ZuV (c k v:Nat) (h:k<c):(Lib.byteCells (Zij c k v)).set k (.int .u8 ((v / 256 ^ k % 256:Nat):Int))=Lib.byteCells (Zij c (k+1) v):=by
 have e:c-k=(c-(k+1))+1:=by omega
 unfold Zij;rw[Zgw,e,zge];have a:(Lib.byteCells (Lib.leBytes k v)).length=k:=by rw[Y4,zcz]
 have b:((v / 256 ^ k % 256).toUInt8).toNat=v / 256 ^ k % 256:=zfq (zfm _ (by decide))
 simp only [Lib.byteCells,zc1,map_cons,map_nil,b] at a ⊢;rw[ze4 _ _ (by omega),a]
 simp
theorem ZAS (k:Nat):2 ^ (8*k)=256 ^ k:=by rw[Nat.pow_mul]
theorem ZuW (v k:Nat):((v:Int) / 2 ^ (8*k)) % 256=((v / 256 ^ k % 256:Nat):Int):=by
 rw[<-ZAS];simp
theorem ZsA (v c:Nat) (w:World) (C:c<=8):
 Calls prog 186 #[.int .u64 (v:Int),.int .i64 (c:Int)] w fun e w'=>∃ v',e=.returned v'∧Own w' w.heap.size v' (Lib.leBytes c v)∧Below w.heap.size w w':=by
 obtain⟨y,B,u,t,A⟩:=zbx Zlw
 go_enter func186,ntmps186
 go_wp2_with(at_make;refine wpList_make_full _ rfl _ _ 53 rfl w.heap.size 5 y (.int .u8 0) 1 underlying53 B u t _ _ _ _ c rfl rfl rfl rfl (by rw[A];omega) (by unfold maxLen;omega) zL ?_)
 intro g j m;have n:Below w.heap.size w g:=(zac _ _).grown m zL (fun k b=>by cases b)
 have f:g.ownsRow w.heap.size 5 1 (.slice (some ⟨w.heap.size,0,none⟩) c c) c (Lib.byteCells (Zij c 0 v)):=by
  have e:(madeCells #[Value.int .u8 0] c).toList=Lib.byteCells (Zij c 0 v):=by
   rw[toList_madeCells_one];simp[Zij,Lib.leBytes,Lib.byteCells]
  rw[<-e];exact j
 have x:=ZZ f;have z:=ZZ n;clear j f n m;go_wp2
 go_loopw[11] (fun i wr=>∃ k:Nat,k<=c∧i=.int .i64 (k:Int)∧Hid (wr.ownsRow w.heap.size 5 1 (.slice (some ⟨w.heap.size,0,none⟩) c c) c (Lib.byteCells (Zij c k v)))∧Hid (Below w.heap.size w wr)) (fun i _=>c-(intOf i).toNat)
 case atStart=>exact⟨0,zap _,rfl,x,z⟩
 case round=>
  obtain⟨k,b,rfl,a,p⟩:=hrel;by_cases q:k<c
  ·have E:wr.cell? ⟨w.heap.size,k,none⟩=some (.int .u8 ((Zij c k v).getD k 0).toNat):=by
    rw[World.ownsRow.cellAt a.out k (by omega),ZbU _ _ (by rw[Znu c k v b];exact q)]
   have D:wr.frozen? ⟨w.heap.size,k,none⟩=false:=World.ownsRow.frozenAt a.out k;go_wp2;go_roundw
   case rel=>
    have d:=World.ownsRow.stored a.out k (Value.int .u8 ((v / 256 ^ k % 256:Nat):Int));rw[ZuV c k v q] at d;rw[ZuW];exact⟨k+1,by omega,by go_num,d.1,p.out.setCell zL _⟩
   case measure=>simp[intOf];omega
  ·go_wp2
   go_ret;have e:k=c:=by omega
   refine⟨_,rfl,Own.mk' (l:=Lib.leBytes c v) a.out (by rw[zcz]) ?_,p.out⟩
   rw[e];simp[Zij]
theorem Zik (v:Nat) (w:World) (h:v<4294967296):
 Calls prog 135 #[.int .u32 (v:Int)] w fun e w'=>∃ v',e=.returned v'∧Own w' w.heap.size v' (Lib.leBytes 4 v)∧Below w.heap.size w w':=by
 have a:Hid (Calls prog 186 #[.int .u64 (v:Int),.int .i64 4] w fun e w'=>∃ v',e=.returned v'∧Own w' w.heap.size v' (Lib.leBytes 4 v)∧Below w.heap.size w w'):=ZsA v 4 w (by omega)
 obtain⟨U,c⟩:∃ U:Int,U=(v:Int):=⟨_,rfl⟩;have i:0<=U:=by omega
 have j:U<4294967296:=by omega
 rw[<-c] at a ⊢;clear c h
 go_enter func135,ntmps135
 go_wp2_with fail
 refine a.o.mono ?_;rintro e w' ⟨v',rfl,d,b⟩;have f:=ZZ d;have g:=ZZ b;clear d b a;go_wp2;go_ret;exact⟨v',rfl,f.o,g.o⟩
theorem ZlM:∀ l:List UInt8,Lib.leNat l<256 ^ l.length
 | []=>by simp[Lib.leNat]
 | c::r=>by
  have h:=ZlM r;have a:=c.toNat_lt;simp only [Lib.leNat,length_cons,zff];omega
theorem ZkA:∀ (l:List UInt8) (c:UInt8),Lib.leNat (l++[c])=Lib.leNat l+c.toNat*256 ^ l.length
 | [],c=>by simp[Lib.leNat]
 | d::r,c=>by
  have h:=ZkA r c;simp only [zcq,Lib.leNat,length_cons,zff,h];rw[Nat.mul_add,<-zft,zfg 256 c.toNat,zft,zfg 256 (256 ^ r.length)];omega
theorem ZsB (l:List UInt8) (k:Nat) (h:k<l.length):Lib.leNat (l.take (k+1))=Lib.leNat (l.take k)+(l.getD k 0).toNat*256 ^ k:=by
 rw[Zhz l k h,ZkA,length_take,zcy (by omega)]
theorem ZlN (l:List UInt8) (k:Nat) (h:k<=l.length):Lib.leNat (l.take k)<256 ^ k:=by
 have:=ZlM (l.take k)
 rwa [length_take,zcy h] at this
theorem Zxv (l:List UInt8) (k:Nat) (c:k<l.length) (f:k<8):
 bits .or .u64 ((Lib.leNat (l.take k):Nat):Int) (IntKind.u64.wrap (((l.getD k 0).toNat:Int)*2 ^ (8*k)))=((Lib.leNat (l.take (k+1)):Nat):Int):=by
 have a:=ZlN l k (by omega)
 rw[ZsB l k c,<-ZAS];rw[<-ZAS] at a;refine ZyP (8*k) _ _ (by omega) a ?_
 have d:2 ^ (8*k)<=2 ^ 56:=zel (by decide) (by omega)
 have e:=(l.getD k 0).toNat_lt;have b:(l.getD k 0).toNat<=255:=by omega
 have:=zgi b d;have g:255*2 ^ 56<18446744073709551616:=by decide
 omega
theorem Znv (v:Value) (l:List UInt8) (w:World) (m:Rd w v l):
 Calls prog 161 #[v] w fun e w'=>e=.returned (.int .u64 (Lib.leNat (l.take 8):Nat))∧w'=w:=by
 obtain⟨ao,cap,rfl,u,g,j,a⟩:=m;clear j;have C:(l.length:Int)<=9223372036854775807:=by unfold maxLen at g;omega
 by_cases D:(l.length:Int)<=8
 all_goals
  go_enter func161,ntmps161
  go_wp2
  go_loop [3,8] (fun n i=>∃ k:Nat,i=.int .i64 k∧k<=8∧k<=l.length∧n=.int .u64 (Lib.leNat (l.take k):Nat)) (fun _ i=>8-(intOf i).toNat)
  case atStart=>exact⟨0,rfl,by omega,by omega,rfl⟩
  case round=>
   obtain⟨k,rfl,t,B,rfl⟩:=hrel;by_cases d:k<8∧k<l.length
   ·obtain⟨d,c⟩:=d
    rcases a with a | ⟨b,x,rfl,f⟩
    ·subst a;simp at c
    ·have q:=f k c
     have p:=ZZ (Zxv l k c d);have A:(l.getD k 0).toNat<256:=zg5 _;clear f;generalize (l.getD k 0).toNat=y at *;generalize Lib.leNat (l.take k)=z at *;go_wp2
     go_round
     case rel=>exact⟨k+1,by go_num,by omega,by omega,by rw[p.o]⟩
     case measure=>simp[intOf];omega
   ·go_wp2
    go_ret;refine⟨ZbV ?_,rfl⟩;by_cases e:k=8
    ·rw[e]
    ·rw[zbl (by omega:l.length<=k),zbl (by omega:l.length<=8)]
def bs (l:List UInt8):ByteArray:=⟨l.toArray⟩
theorem ZuX (l:List UInt8):(bs l).toList=l:=ByteArray.toList_mk l
theorem ZAT (a b:List UInt8):((bs a).toList == (bs b).toList)=(a == b):=by rw[ZuX,ZuX]
theorem Rd.str {l:List UInt8} (h:Rd w v l):(convert 53 9 v).run prog w=.ok (.string (bs l)) w:=by
 obtain⟨ao,cap,rfl,_,_,d,h⟩:=h
 cases ao with
 | none=>
  have b:l=[]:=eq_nil_of_length_eq_zero (by have:=d rfl;omega)
  subst b;exact run_convert_bytes_nil w 53 5 underlying53 underlying5 0 cap 9 underlying9
 | some a=>
  have b:(loadCells a l.length).run prog w=.ok ((l.map fun c=>(c.toNat:Int)).map (Value.int .u8)).toArray w:=by
   have:=run_loadCells_list (P:=prog) w a (Lib.byteCells l) (Rd.cells h a rfl);rw[Y4] at this;rw[this];simp[Lib.byteCells,Function.comp_def]
  rw[run_convert_bytes_string w 53 9 5 _ l.length cap underlying53 underlying5 underlying9,run_bytesToString w _ l.length cap _ b,foldl_push_bytes]
  have e:(List.map (fun n:Int=>UInt8.ofNat n.toNat) (List.map (fun c:UInt8=>(c.toNat:Int)) l))=l:=by
   rw[List.map_map]
   conv=>rhs;rw[<-List.map_id l]
   apply List.map_congr_left;intro c _;simp
  rw[e];simp[bs,ByteArray.empty,ByteArray.emptyWithCapacity];rfl
def Zzr (B:Nat) (w:World) (p:Nat) (d:Dk) (N T:Nat):Prop:=∃ F,Dsk F w p d N T∧∀ k,F k->B<=k
theorem Zri (B:Nat) (room:Int) (d:I64 room) (w:World) (a:B<=w.heap.size):
 Calls prog 9 #[.int .i64 room] w fun e w'=>∃ p,e=.returned (ptr p)∧Zzr B w' p (Zhe room) 0 0∧Below B w w':=by
 refine(Zzm room d w).mono ?_;rintro e w' ⟨p,f,b,c⟩;exact⟨p,f,⟨_,b,fun k g=>by omega⟩,c.mono a⟩
theorem Dsk.ltF {F:Nat->Prop} {p:Nat} (h:Dsk F w p d N T):∀ k,F k->k<w.heap.size:=by
 obtain⟨L,a,_⟩:=h;exact a.lt
theorem ZsC {p:Nat} (w:World) (h:Zzr B w p d N T) (b:N<=1000000):
 Calls prog 28 #[ptr p] w fun e w'=>∃ v,e=.returned v∧Qt w' w.heap.size v ((Qm d).map Prod.fst)∧Below w.heap.size w w':=by
 obtain⟨F,⟨L,a,c,_⟩,f⟩:=h;exact ZeM w a c b
theorem Zzr.ok {p:Nat} (h:Zzr B w p d N T):OkD d∧Bnd d N T:=by
 obtain⟨F,⟨L,c,b,a,_⟩,e⟩:=h;exact⟨b,a⟩
theorem Z3 (w:World) (o:Obj):Below w.heap.size w (w.alloc o):=(zac _ w).alloc zL o
theorem Rd.mid {ao:Option Addr} {l:List UInt8} (h:Rd w (.slice ao n cap) l) (i j m:Nat) (B:i<=j) (A:j<=l.length) (F:j<=m) (y:m<=cap):Rd w (sliced ao i j m 1) ((l.drop i).take (j-i)):=by
 obtain⟨z,C,q,D,E,p,c⟩:=h;simp only [zbb] at q;obtain⟨rfl,rfl,rfl⟩:=q;have d:((l.drop i).take (j-i)).length=j-i:=by simp;omega
 unfold sliced;by_cases g:m=i
 ·rw[zab g]
  have e:j-i=0:=by omega
  refine⟨ao,m-i,by rw[d],by omega,by omega,fun a=>by have:=p a;omega,.inl ?_⟩
  rw[e];simp
 ·rw[zaa g]
  refine⟨ao.map (·.add (i*1)),m-i,by rw[d],by omega,by omega,fun a=>?_,?_⟩
  ·have t:ao=none:=by simpa using a
   have:=p t;omega
  ·rcases c with c | ⟨b,v,u,x⟩
   ·exact .inl (by rw[c];simp)
   ·refine .inr ⟨b,v+i,?_,fun k f=>?_⟩
    ·rw[u,zct,zc9,zbn]
    ·rw[d] at f
     rw[zb1,x (i+k) (by omega)]
     simp[List.getD,f]
theorem Jt:prog.elem 53=5:=by kernel_rfl
theorem Zcd (w:World):(sizeOf 5).run prog w=.ok 1 w:=by
 obtain⟨c,b,_,a,_⟩:=zbx Zlw;simp[sizeOf,typeInfo,b,a]
theorem Xu:prog.underlying 53=some (.slice (prog.elem 53)):=by rw[Jt];exact underlying53
theorem Zil (w:World) (v:Value) (l:List UInt8) (a:Rd w v l) (k:IntKind) (i:Int) (b:0<=i) (d:i<=l.length):
 ∃ v',(Instr.sliceAt 53 v (some (.int k i)) none none).run prog w=.ok v' w∧Rd w v' (l.drop i.toNat):=by
 have h:=a;obtain⟨ao,cap,rfl,c,_⟩:=a;refine⟨sliced ao i.toNat l.length cap 1,?_,?_⟩
 ·rw[zcn w 53 _ _ _ _ Xu,zfs w 53 ao l.length cap Xu k i b (by omega),Jt,Zcd]
  rfl
 ·have:=h.mid i.toNat l.length cap (by omega) zL c zL
  rw[zbl (by simp)] at this
  exact this
theorem ZfN (w:World) {d:Array Oper} {rest:List Oper} {o:Oper} {a:Act} {Q:Exit->Act->World->Prop} (g:o.guard=none) (x:Operand) (lo e c:Option Operand)
 (j:o.op=.slice 53 x lo e c) (l:List UInt8)
 (b:∃ v',(Instr.sliceAt 53 (a.eval x) (lo.map a.eval) (e.map a.eval) (c.map a.eval)).run prog w=.ok v' w∧Rd w v' l)
 (h:∀ v',Rd w v' l->wpList prog d Q rest (a.put o.dst v') w):wpList prog d Q (o::rest) a w:=
 zb0 g fun _ f=>by
  obtain⟨v',b,i⟩:=b;unfold Oper.wp execOp;simp only [j,b,zbt,zbv,zbe];exact f _ _ (h v' i)
def ZsD (e:Ent):Value:=.agg #[.int .i64 e.proc,.int .i64 e.seq,.int .i64 e.resp]
def Gw (e:Ent):Array Value:=#[.int .i64 e.proc,.int .i64 e.seq,.int .i64 e.resp]
def ZlO (e:Ent):Prop:=I64 e.proc∧I64 e.seq∧I64 e.resp
def Be (w:World) (b:Nat) (cs:Array Value):Prop:=w.heap[b]?=some (.cells cs 85 (0,0))
theorem Be.lt (h:Be w b cs):b<w.heap.size:=(zar.1 h).1
theorem Be.below (h:Be w b cs) (a:Below B w w') (c:w.heap.size<=B):Be w' b cs:=(a.block b (by have:=h.lt;omega)).trans h
theorem Be.cell (h:Be w b cs) (j:Nat):w.cell? ⟨b,j,none⟩=cs[j]?∧w.frozen? ⟨b,j,none⟩=false:=⟨zas w b j _ _ _ h,zbc w b j _ _ h⟩
def Znw (w:World) (b o:Nat) (e:Ent):Prop:=
 w.cell? ⟨b,o,none⟩=some (.int .i64 e.proc)∧w.cell? ⟨b,o+1,none⟩=some (.int .i64 e.seq)∧w.cell? ⟨b,o+2,none⟩=some (.int .i64 e.resp)
theorem Znw.lt (h:Znw w b o e):b<w.heap.size:=za1 w ⟨b,o,none⟩ h.1
theorem Znw.keep (h:Znw w b o e) (d:w'.heap[b]?=w.heap[b]?):Znw w' b o e:=by
 have c:∀ i,w'.cell? ⟨b,i,none⟩=w.cell? ⟨b,i,none⟩:=fun i=>zb4 (a:=⟨b,i,none⟩) d
 unfold Znw at h ⊢;simp only [c];exact h
def RdE (w:World) (v:Value) (l:List Ent):Prop:=
 ∃ ao cap,v=.slice ao l.length cap∧l.length<=cap∧cap<=maxLen∧(ao=none->cap=0)∧(∀ e ∈ l,ZlO e)∧
  (l=[]∨∃ b off,ao=some ⟨b,off,none⟩∧∀ j,j<l.length->Znw w b (off+j*3) (l.getD j Xj))
theorem RdE.nil (w:World):RdE w (.slice none 0 0) []:=⟨none,0,rfl,za0 _,zap _,fun _=>rfl,(fun r h=>by simp at h),.inl rfl⟩
theorem RdE.below (h:RdE w v l) {B:Nat} (p:Below B w w') (t:w.heap.size<=B):RdE w' v l:=by
 obtain⟨ao,cap,k,q,n,e,i,a⟩:=h;refine⟨ao,cap,k,q,n,e,i,?_⟩;rcases a with a | ⟨b,g,f,m⟩
 ·exact .inl a
 ·refine .inr ⟨b,g,f,fun j d=>?_⟩
  have c:=m j d;exact c.keep (p.block b (by have:=c.lt;omega))
def Qg:List Ent->List Value
 | []=>[]
 | r::t=>(Gw r).toList++Qg t
theorem Xk:∀ l:List Ent,(Qg l).length=l.length*3
 | []=>rfl
 | r::t=>by
  rw[Qg,length_append,Xk t,length_cons];simp[Gw];omega
theorem ZaA:∀ a b:List Ent,Qg (a++b)=Qg a++Qg b
 | [],_=>rfl
 | r::t,b=>by rw[zcq,Qg,ZaA t b,Qg,zcr]
theorem Z0:∀ (l:List Ent) (j k:Nat),j<l.length->k<3->(Qg l)[j*3+k]?=(Gw (l.getD j Xj))[k]?
 | r::t,0,k,_,hk=>by
  rw[Qg,zc7,za9,zbg (by simp[Gw];omega)]
  simp[List.getD]
 | r::t,j+1,k,hj,hk=>by
  have e:(j+1)*3+k=(Gw r).toList.length+(j*3+k):=by simp[Gw];omega
  rw[Qg,e,zbs (by omega),zcf,Z0 t j k (by simpa using hj) hk]
  simp[List.getD]
theorem Zac (l:List Ent):∀ u ∈ Qg l,u.oneCell'=true:=by
 induction l with
 | nil=>intro u a;simp[Qg] at a
 | cons r t b=>
  intro u a;rw[Qg] at a;rcases za2.1 a with h | h
  ·simp[Gw] at h
   rcases h with rfl | rfl | rfl <;> rfl
  ·exact b u h
def Xp (w:World) (B:Nat) (v:Value) (l:List Ent):Prop:=w.ownsRow B 85 3 v l.length (Qg l)
theorem Xp.nil (w:World) (B:Nat):Xp w B (.slice none 0 0) []:=zck w B 85 3
theorem Xp.rd (h:Xp w B v l) (d:∀ r ∈ l,ZlO r):RdE w v l:=by
 rcases h.2 with ⟨a,c⟩ | ⟨g,cap,cur,a,y,q,m,n,x,t⟩
 ·exact⟨none,0,by rw[a,c],by omega,zap _,fun _=>rfl,d,.inl (eq_nil_of_length_eq_zero c)⟩
 ·refine⟨some ⟨g,0,none⟩,cap,a,m,n,(fun e=>by cases e),d,.inr ⟨g,0,rfl,fun j f=>?_⟩⟩
  have b:∀ k u,k<3->(Gw (l.getD j Xj))[k]?=some u->w.cell? ⟨g,0+j*3+k,none⟩=some u:=fun k u p i=>by
   have:=zc4 h (g:=g) (by rw[a];rfl) (j*3+k) u ((Z0 l j k f p).trans i)
   rw[zbn] at this;rw[zb1];exact this
  exact⟨b 0 _ (by decide) rfl,b 1 _ (by decide) rfl,b 2 _ (by decide) rfl⟩
theorem Xp.below (h:Xp w B v l) (e:Below B' w w') (i:w.heap.size<=B'):Xp w' B v l:=by
 obtain⟨d,a⟩:=h;refine⟨d,?_⟩;rcases a with a | ⟨g,cap,cur,f,c,b,r⟩
 ·exact .inl a
 ·have j:g<w.heap.size:=(zar.1 b).1
  exact .inr ⟨g,cap,cur,f,c,by rw[e.block g (by omega)];exact b,r⟩
theorem Xp.mono (h:Xp w B v l) (d:B'<=B):Xp w B' v l:=by
 obtain⟨b,a⟩:=h;refine⟨b,?_⟩;rcases a with a | ⟨g,cap,cur,c,e,r⟩
 ·exact .inl a
 ·exact .inr ⟨g,cap,cur,c,by omega,r⟩
theorem Xp.shape (h:Xp w B v l):∃ ao cap,v=.slice ao l.length cap:=by
 rcases h.2 with ⟨a,b⟩ | ⟨g,cap,cur,a,_⟩
 ·exact⟨none,0,by rw[a,b]⟩
 ·exact⟨_,_,a⟩
theorem RdE.shape (h:RdE w v l):∃ ao cap,v=.slice ao l.length cap:=by
 obtain⟨ao,cap,a,_⟩:=h;exact⟨ao,cap,a⟩
theorem Zhl:(prog.info? 85).map (fun i=>(i.zero,i.size,i.bytes))=some (some (.agg #[.int .i64 0,.int .i64 0,.int .i64 0]),3,24):=by kernel_rfl
theorem ZjU (w:World) (ty:TypeId) (B:Nat) (v:Value) (l:List Ent) (h:Xp w B v l) (r:Ent) (q:l.length<=1000000) (f:B<=w.heap.size):
 ∃ v' w',(Builtin.append_ #[39,39] ty #[v,.slice (some ⟨w.heap.size,0,none⟩) 1 1]).run prog (w.alloc (.cells (Gw r) 85))=.ok v' w'∧Xp w' B v' (l++[r])∧Below B w w':=by
 obtain⟨i,p,b,a,n⟩:=zbx Zhl
 obtain⟨v',w',d,g,m,_⟩:=zdn (P:=prog) (w.alloc (.cells (Gw r) 85)) B 39 ty 85 i _ 3 24 underlying39 p b a n rfl (by decide) v l.length (Qg l) (h.alloc _)
  ⟨w.heap.size,0,none⟩ 1 1 (Qg [r]) (Xk [r]) (fun j u c=>by
   rw[zbn,za9,zas _ w.heap.size j _ 85 (0,0) (zak w _)]
   simpa[Qg] using c) (Zac [r]) (by unfold maxLen;omega) (by omega) (by simp;omega)
 refine⟨v',w',d,?_,?_⟩
 ·unfold Xp
  rw[length_append,ZaA];exact g
 ·exact((zac _ _).alloc f _).grown m (by simp;omega) (fun k e=>(zaz h k e).1)
theorem ZfO (w:World) {b:Array Oper} {rest:List Oper} {o:Oper} {a:Act} {Q:Exit->Act->World->Prop} (g:o.guard=none) (s x:Operand)
 (j:o.op=.call { callee:=.builtin .append,args:=#[s,x],argTypes:=#[39,39] })
 (B:Nat) (v:Value) (l:List Ent) (c:a.eval s=v) (k:Xp w B v l) (r:Ent) (n:a.eval x=.slice (some ⟨w.heap.size,0,none⟩) 1 1)
 (d:l.length<=1000000) (i:B<=w.heap.size)
 (h:∀ v' w',Xp w' B v' (l++[r])->Below B w w'->wpList prog b Q rest (a.put o.dst v') w'):wpList prog b Q (o::rest) a (w.alloc (.cells (Gw r) 85)):=
 zb0 g fun _ e=>by
  obtain⟨v',w',f,p,m⟩:=ZjU w o.type B v l k r d i;unfold Oper.wp execOp;simp only [j,resolve,invoke,builtin,zbt,zbv,zbe,zch,map_cons,map_nil,c,n,f];exact e _ _ (h v' w' p m)
def SnV (w:World) (v:Value) (s:Q0):Prop:=
 ∃ vl vt,v=.agg #[.int .i64 s.idx,.int .i64 s.st.kind,vl,.bool s.st.shut,.int .i64 s.st.eng,vt]∧RdI w vl s.st.L∧I64 s.st.kind∧I64 s.st.eng∧RdE w vt s.tab∧I64 s.idx
def Db (p:Int):List Ent->Nat
 | []=>0
 | x::t=>if p<x.proc then 0 else Db p t+1
theorem Znx (p:Int):∀ t,Db p t<=t.length
 | []=>za0 _
 | x::t=>by
  rw[Db];split
  ·exact zap _
  ·have:=Znx p t
   rw[length_cons];omega
def Zpu (p:Int) (t:List Ent):List Ent:=t.filter (fun x=>decide (x.proc≠p))
theorem Zxw (p:Int) (t:List Ent):(Zpu p t).length<=t.length:=zdh _ _
theorem Zny (e:Ent):∀ t:List Ent,Zcx t e=(Zpu e.proc t).take (Db e.proc (Zpu e.proc t))++(e::(Zpu e.proc t).drop (Db e.proc (Zpu e.proc t)))
 | []=>rfl
 | x::t=>by
  have b:=Zny e t;unfold Zcx at b ⊢;unfold Zpu at b ⊢
  have d:(x::t).filter (fun y=>decide (y.proc≠e.proc))=if x.proc=e.proc then t.filter (fun y=>decide (y.proc≠e.proc)) else x::t.filter (fun y=>decide (y.proc≠e.proc)):=by
   rw[zdi];by_cases h:x.proc=e.proc <;> simp[h]
  rw[ZfH,d];by_cases c:x.proc=e.proc
  ·have a:¬ e.proc<x.proc:=by omega
   simp only [c,zeu];rw[zaa (by simp),zai (by omega),zfb,b]
   rfl
  ·simp only [zaa c]
   by_cases a:e.proc<x.proc
   ·rw[zab (by simp[a]),zan a,zgv,ZfI,Db,zab a]
    rfl
   ·rw[zaa (fun h=>a h.2),zai a,Bool.or_false,Db,zaa a,b]
    rfl
theorem ZkB {p:Int}:∀ {t:List Ent},(∀ j,j<t.length->¬ p<(t.getD j Xj).proc)->Db p t=t.length
 | [],_=>rfl
 | x::t,h=>by
  have a:=h 0 (by simp)
  rw[show(x::t).getD 0 Xj=x from rfl] at a;rw[Db,zaa a,ZkB (fun j b=>h (j+1) (by simpa using b))]
  rfl
theorem Znz {p:Int}:∀ {t:List Ent} {i:Nat},i<t.length->(∀ j,j<i->¬ p<(t.getD j Xj).proc)->p<(t.getD i Xj).proc->Db p t=i
 | [],i,hi,_,_=>absurd hi (zcg _)
 | x::t,0,_,_,h=>by
  rw[show(x::t).getD 0 Xj=x from rfl] at h;rw[Db,zab h]
 | x::t,i+1,hi,hb,h=>by
  have a:=hb 0 (by omega)
  rw[show(x::t).getD 0 Xj=x from rfl] at a;rw[Db,zaa a,Znz (i:=i) (by simpa using hi) (fun j b=>hb (j+1) (by omega)) h]
theorem ZuY {b:List UInt8} {r:List Ent × List UInt8} (h:J0 n b=some r):n<=b.length:=by
 obtain⟨t,x⟩:=r;obtain⟨c,a⟩:=ZdV n b t x h;have:=Zne t;rw[a,length_append];omega
theorem ZnA {b:List UInt8} (c:(Qb b).2≠0):Zbe b=(J0 (Qb b).1 (b.drop (Qb b).2)).bind (fun r=>if r.2=[] then some r.1 else none):=by
 unfold Zbe;by_cases a:b.length<(Qb b).1
 ·rw[zab (.inr a)]
  cases h:J0 (Qb b).1 (b.drop (Qb b).2) with
  | none=>rfl
  | some r=>
   have:=ZuY h;rw[length_drop] at this;omega
 rw[zaa (by omega)]
 cases J0 (Qb b).1 (b.drop (Qb b).2) with
 | none=>rfl
 | some p=>
  obtain⟨t,x⟩:=p
  cases x <;> rfl
theorem Zpv {l:List UInt8} {a:Nat} (h:a<l.length):Yd (l.drop a)=(l.drop a).take 64::Yd (l.drop (a+64)):=by
 rw[Z5 (fun e=>by
  have:=congrArg List.length e;rw[length_drop,zc0] at this
  omega),drop_drop]
theorem ZuZ (P:List (List UInt8)):ZfG P↔P=Yd P.flatten:=
 ⟨fun h=>(ZcC P h).symm,fun h=>by rw[h];exact ZcD _ _ zL⟩
theorem Zva (e:Ent):Q1 ⟨0,e.proc,e.seq,⟨0,0,0⟩,e.resp⟩↔Dh e:=by
 unfold Q1 Dh Gj;simp only;omega
def Zim (t:List Ent):Nat->Int
 | 0=>0
 | k+1=>(t.getD k Xj).proc+1
theorem Zpw {t:List Ent} {k:Nat}:Gk t (k+1)↔Gk t k∧Dh (t.getD k Xj)∧Zim t k<=(t.getD k Xj).proc:=by
 rw[Gk.next];constructor
 ·rintro⟨h1,h2,h3⟩
  refine⟨h1,h2,?_⟩
  cases k with
  | zero=>exact h2.1
  | succ k=>
   have:=h3 (by omega)
   rw[zdk] at this;rw[Zim];omega
 ·rintro⟨h1,h2,h3⟩
  refine⟨h1,h2,fun h=>?_⟩
  cases k with
  | zero=>omega
  | succ k=>
   rw[Zim] at h3;rw[zdk];omega
theorem Zvb (i:Int) (t:List Ent):¬ Zs ⟨i,ZcA,t⟩:=by
 rintro⟨-,h,-⟩
 revert h
 show ¬ Ym ZcA;decide
def Zw:Nat->List UInt8->Option (List Nat × List UInt8)
 | 0,b=>some ([],b)
 | n+1,b=>if(Qb b).2=0 then none else(Zw n (b.drop (Qb b).2)).map (fun r=>((Qb b).1::r.1,r.2))
theorem ZaP {P:Program} (w:World) (g A ty e:TypeId) (k:Nat) (b o d p:Nat) (a:Addr) (c x:Nat) (cs:List Value)
 (n:P.underlying g=some (.slice e)) (f:(P.info? e).map (·.size)=some k) (q:cs.length=Nat.min c d*k)
 (t:∀ j v,cs[j]?=some v->w.cell? (a.add j)=some v) (m:∀ j,j<cs.length->(w.cell? ⟨b,o+j,none⟩).isSome=true) (B:∀ j,j<cs.length->w.frozen? ⟨b,o+j,none⟩=false) (u:∀ v ∈ cs,v.oneCell'=true):
 (Builtin.copy_ #[g,A] ty #[.slice (some ⟨b,o,none⟩) d p,.slice (some a) c x]).run P w=.ok (goInt (Nat.min c d)) (w.setCells b o cs):=by
 have l:=run_loadCells_list (P:=P) w a cs t;have y:=run_storeCells_cells (P:=P) b o cs 0 w (by simpa using m) (by simpa using B) u
 cases hq:P.info? e with
 | none=>simp[hq] at f
 | some i=>
  have z:i.size=k:=by simpa[hq] using f
  rw[q] at l;simp[Builtin.copy_,ze5 n,Builtin.lenOf,Builtin.firstCells,sizeOf,typeInfo,hq,z,l,y]
def Zbr:Nat->List Value
 | 0=>[]
 | n+1=>.int .i64 0::.int .i64 0::.int .i64 0::Zbr n
theorem Gq:∀ n,(Zbr n).length=n*3
 | 0=>rfl
 | n+1=>by rw[Zbr,length_cons,length_cons,length_cons,Gq n];omega
theorem ZfP:∀ n,∀ v ∈ Zbr n,v=.int .i64 0
 | 0,v,h=>by simp[Zbr] at h
 | n+1,v,h=>by
  rw[Zbr,mem_cons,mem_cons,mem_cons] at h;rcases h with h | h | h | h
  ·exact h
  ·exact h
  ·exact h
  ·exact ZfP n v h
theorem ZkC (n:Nat):(Builtin.zeroCells (Value.agg #[.int .i64 0,.int .i64 0,.int .i64 0]).cells n).toList=Zbr n:=by
 have g:(Value.agg #[.int .i64 0,.int .i64 0,.int .i64 0]).cells=#[.int .i64 0,.int .i64 0,.int .i64 0]:=by rfl
 rw[g];apply zek;intro i;by_cases h:i<n*3
 ·have a:i<(Zbr n).length:=by rw[Gq];exact h
  have f:(Zbr n)[i]?=some (.int .i64 0):=by
   rw[za4 a,ZfP n _ (zcp a)]
  rw[f];have d:i % 3=0∨i % 3=1∨i % 3=2:=by omega
  simp only [Builtin.zeroCells,zb2,Array.getElem?_map];have c:(Array.range (n*(#[Value.int .i64 0,.int .i64 0,.int .i64 0]:Array Value).size))[i]?=some i:=by simp[h]
  rw[c];have b:(#[Value.int .i64 0,.int .i64 0,.int .i64 0]:Array Value).size=3:=rfl;rw[b];rcases d with e | e | e <;> rw[zc9,e] <;> rfl
 ·rw[zbw (by simp[Builtin.zeroCells];omega),zbw (by rw[Gq];omega)]
theorem Zin {P:Program} (w:World) (t e ty:TypeId) (g:P.underlying t=some (.slice e)) (i:∀ w,(zeroValue e).run P w=.ok (.agg #[.int .i64 0,.int .i64 0,.int .i64 0]) w) (b o n c:Nat) (l:0<n)
 (d:∀ j,j<n*3->(w.cell? ⟨b,o+j,none⟩).isSome=true) (k:∀ j,j<n*3->w.frozen? ⟨b,o+j,none⟩=false):
 (Builtin.clear_ #[t] ty #[.slice (some ⟨b,o,none⟩) n c]).run P w=.ok (.tuple #[]) (w.setCells b o (Zbr n)):=by
 have a:=run_storeCells_cells (P:=P) b o (Zbr n) 0 w (by rw[Gq];simpa using d) (by rw[Gq];simpa using k) (by intro v f;rw[ZfP n v f];rfl)
 simp only [zc2] at a;obtain⟨m,rfl⟩:∃ m,n=m+1:=⟨n-1,by omega⟩
 simp[Builtin.clear_,ze5 g,i,ZkC,a]
def Zpx (r s:Ent):Bool:=r.proc == s.proc && r.seq == s.seq && r.resp == s.resp
theorem Zvc (w:World) (r s:Ent):(binOp .neq 85 (.agg #[.int .i64 r.proc,.int .i64 r.seq,.int .i64 r.resp]) (.agg #[.int .i64 s.proc,.int .i64 s.seq,.int .i64 s.resp])).run prog w=.ok (.bool (!Zpx r s)) w:=by
 have d:=underlying3;have c:=Tryz.isAgg3;have e:=Tryz.sizeOf3;have a:prog.underlying 85=some (.struct (prog.fieldsOf 85)):=by kernel_rfl
 have b:prog.stoodInHeld 85=false:=by kernel_rfl
 unfold Zpx;rw[run_neq_struct,show(10000:Nat)=9999+1 from rfl,run_equalIn_agg w 9999 85 _ _ a b];simp only [Program.fieldsOf,underlying85]
 go_simp
 repeat' split
 all_goals simp_all
theorem Zvd:prog.eqGuardType prog.depth 85=false:=by kernel_rfl
theorem ZnB (r s:Ent):Zpx r s=true↔r=s:=by
 obtain⟨i,p,q⟩:=r;obtain⟨c,b,a⟩:=s;simp[Zpx];constructor
 ·rintro⟨⟨rfl,rfl⟩,rfl⟩
  simp
 ·rintro⟨rfl,rfl,rfl⟩
  simp
theorem ZsE (r:Ent):Zpx r r=true:=(ZnB r r).2 rfl
theorem Zve {r s:Ent} (h:r≠s):Zpx r s=false:=by
 cases hq:Zpx r s
 ·rfl
 ·exact absurd ((ZnB _ _).1 hq) h
open Go.RowKit Go.Shelf
def Zxx:Go.Shelf.Ren:=⟨fun | 111=>89 | n=>n,fun | 28=>23 | 3=>3 | 4=>4 | 0=>0 | n=>n,fun | n=>n⟩
theorem ZAU:Go.Proofs.Lays.n111 prog Zxx:={
 mixed:=by kernel_rfl
 f111:=func89.trans (congrArg some (by kernel_rfl))
 t0:=underlying0
 a0:=Tryz.isAgg0
 z0:=Tryz.sizeOf0
 v0:=Tryz.zeroValue0
 t3:=underlying3
 a3:=Tryz.isAgg3
 z3:=Tryz.sizeOf3
 v3:=Tryz.zeroValue3
 t4:=underlying4
 a4:=Tryz.isAgg4
 z4:=Tryz.sizeOf4
 v4:=Tryz.zeroValue4
 t28:=underlying23
 a28:=Tryz.isAgg23
 z28:=Tryz.sizeOf23
 v28:=Tryz.zeroValue23 }
def ZsF:Go.Shelf.Ren:=⟨fun | 15=>39 | n=>n,fun | 22=>23 | 3=>3 | 4=>4 | n=>n,fun | n=>n⟩
theorem Zvf:Go.Proofs.Lays2.n15 prog ZsF:={
 mixed:=by kernel_rfl
 f15:=func39.trans (congrArg some (by kernel_rfl))
 t3:=underlying3
 a3:=Tryz.isAgg3
 z3:=Tryz.sizeOf3
 v3:=Tryz.zeroValue3
 t4:=underlying4
 a4:=Tryz.isAgg4
 z4:=Tryz.sizeOf4
 v4:=Tryz.zeroValue4
 t22:=underlying23
 a22:=Tryz.isAgg23
 z22:=Tryz.sizeOf23
 v22:=Tryz.zeroValue23
 i3:=by kernel_rfl }
def ZsG:Go.Shelf.Ren:=⟨fun | 23=>210 | n=>n,fun | 22=>23 | 3=>3 | 4=>4 | 0=>0 | n=>n,fun | n=>n⟩
theorem ZAj:Go.Proofs.Lays2.n23 prog ZsG:={
 mixed:=by kernel_rfl
 f23:=func210.trans (congrArg some (by kernel_rfl))
 t0:=underlying0
 a0:=Tryz.isAgg0
 z0:=Tryz.sizeOf0
 v0:=Tryz.zeroValue0
 t3:=underlying3
 a3:=Tryz.isAgg3
 z3:=Tryz.sizeOf3
 v3:=Tryz.zeroValue3
 t4:=underlying4
 a4:=Tryz.isAgg4
 z4:=Tryz.sizeOf4
 v4:=Tryz.zeroValue4
 t22:=underlying23
 a22:=Tryz.isAgg23
 z22:=Tryz.sizeOf23
 v22:=Tryz.zeroValue23
 i3:=by kernel_rfl }
def ZkD:Go.Shelf.Ren:=⟨fun | 21=>212 | 27=>223 | 28=>224 | 35=>229 | 39=>232 | n=>n,fun | 22=>23 | 3=>3 | 4=>4 | 0=>0 | n=>n,fun | n=>n⟩
theorem ZnC:Go.Proofs.Lays2.n21 prog ZkD:={
 mixed:=by kernel_rfl
 f21:=func212.trans (congrArg some (by kernel_rfl))
 f27:=func223.trans (congrArg some (by kernel_rfl))
 f28:=func224.trans (congrArg some (by kernel_rfl))
 f35:=func229.trans (congrArg some (by kernel_rfl))
 f39:=func232.trans (congrArg some (by kernel_rfl))
 t0:=underlying0
 a0:=Tryz.isAgg0
 z0:=Tryz.sizeOf0
 v0:=Tryz.zeroValue0
 t3:=underlying3
 a3:=Tryz.isAgg3
 z3:=Tryz.sizeOf3
 v3:=Tryz.zeroValue3
 t4:=underlying4
 a4:=Tryz.isAgg4
 z4:=Tryz.sizeOf4
 v4:=Tryz.zeroValue4
 t22:=underlying23
 a22:=Tryz.isAgg23
 z22:=Tryz.sizeOf23
 v22:=Tryz.zeroValue23
 i3:=by kernel_rfl }
def Zfu (cur:Array Value):Nat->List Value->Array Value
 | _,[]=>cur
 | o,v::r=>Zfu (cur.setIfInBounds o v) (o+1) r
theorem Xr:∀ (vs:List Value) (o:Nat) (cur:Array Value),(Zfu cur o vs).size=cur.size
 | [],_,_=>rfl
 | v::r,o,cur=>by rw[Zfu,Xr r];simp
theorem Ys:∀ (vs:List Value) (o:Nat) (cur:Array Value) (j:Nat),j<cur.size->(Zfu cur o vs)[j]?=if o<=j∧j<o+vs.length then vs[j-o]? else cur[j]?
 | [],o,cur,j,_=>by
  rw[Zfu,zaa (by rw[zc0];omega)]
 | v::r,o,cur,j,hj=>by
  rw[Zfu,Ys r (o+1) _ j (by simpa using hj)]
  by_cases h:j=o
  ·subst h
   rw[zaa (by omega),zab (by simp)]
   simp[hj]
  ·by_cases a:o+1<=j∧j<o+1+r.length
   ·rw[zab a,zab (by simp;omega)]
    rw[show j-o=(j-(o+1))+1 by omega]
    simp
   ·rw[zaa a,zaa (by simp;omega)]
    simp[show ¬ o=j by omega]
theorem X3 (g:Nat) (t:TypeId):∀ (vs:List Value) (o:Nat) (w:World) (cur:Array Value),w.heap[g]?=some (.cells cur t (0,0))->(w.setCells g o vs).heap[g]?=some (.cells (Zfu cur o vs) t (0,0))
 | [],_,_,_,h=>h
 | v::r,o,w,cur,h=>by
  rw[World.setCells,Zfu];exact X3 g t r (o+1) _ _ (zbk w g o cur t v h)
theorem G8 {B g:Nat} {a:World} (b:B<=g):∀ (vs:List Value) (o:Nat) (w:World),Below B a w->Below B a (w.setCells g o vs)
 | [],_,_,h=>h
 | v::r,o,w,h=>by
  rw[World.setCells];exact G8 b r (o+1) _ (h.setCell b v)
theorem Zio (h:Below B a w):Below B a w.drew:=⟨h.os,h.tape,h.output,h.size,h.block⟩
theorem Qt.ofRow {l:List Int} (b:B<=g) (d:w.heap[g]?=some (.cells cur 3 (0,0))) (i:l.length<=cap) (f:cap<=maxLen) (c:cur.size=cap) (e:∀ j,j<l.length->cur[j]?=some (.int .i64 (l.getD j 0))):
 Qt w B (.slice (some ⟨g,0,none⟩) l.length cap) l:=by
 refine⟨by rw[Zp,zct],.inr ⟨g,cap,cur,rfl,b,d,i,f,by rw[c,zct],?_⟩⟩
 apply zek;intro j;rw[zct];by_cases a:j<l.length
 ·rw[zcc a,Zz l j a,zb2]
  exact e j a
 ·rw[zbw (by simp;omega),zbw (by rw[Zp];omega)]
theorem Qt.ofRowN {l:List Int} (f:n=l.length) (a:B<=g) (c:w.heap[g]?=some (.cells cur 3 (0,0))) (i:l.length<=cap) (e:cap<=maxLen) (b:cur.size=cap) (d:∀ j,j<l.length->cur[j]?=some (.int .i64 (l.getD j 0))):
 Qt w B (.slice (some ⟨g,0,none⟩) n cap) l:=by
 subst f;exact Qt.ofRow a c i e b d
theorem Qt.row {l:List Int} (h:Qt w B v l):(v=.slice none 0 0∧l=[])∨∃ g cap cur,v=.slice (some ⟨g,0,none⟩) l.length cap∧B<=g∧g<w.heap.size∧w.heap[g]?=some (.cells cur 3 (0,0))∧l.length<=cap∧cap<=maxLen∧cur.size=cap∧∀ j,j<l.length->cur[j]?=some (.int .i64 (l.getD j 0)):=by
 rcases h.2 with ⟨a,b⟩ | ⟨g,cap,cur,a,b,d,i,f,m,k⟩
 ·exact .inl ⟨a,eq_nil_of_length_eq_zero b⟩
 ·refine .inr ⟨g,cap,cur,a,b,(zar.1 d).1,d,i,f,by rw[m,zct],fun j c=>?_⟩
  have e:=Zz l j c;rw[<-k,zct,zcc c,zb2] at e;exact e
theorem ZkE (w:World) (q:Nat):(w.drewN q).heap=w.heap:=by
 induction q generalizing w with
 | zero=>rfl
 | succ n a=>exact a _
structure Mv (w w':World) (v v':Value):Prop where
 grown:w.grownBy w' v.ownBlock
 lies:∀ b,v'.ownBlock=some b->v.ownBlock=some b∨w.heap.size<=b
theorem Mv.size (h:Mv w w' v v'):w.heap.size<=w'.heap.size:=h.grown.size
theorem Mv.ofBelow (h:Below w.heap.size w w') (v:Value):Mv w w' v v:=⟨⟨h.os,h.tape,h.output,h.size,fun k b _=>h.block k b⟩,fun _ a=>.inl a⟩
theorem Mv.refl (w:World) (v:Value):Mv w w v v:=Mv.ofBelow (zac _ _) v
theorem Mv.alloc (w:World) (v:Value) (X:Obj):Mv w (w.alloc X) v v:=Mv.ofBelow ((zac _ _).alloc zL X) v
theorem Mv.trans {j g:World} {d f:Value} (a:Mv w j v d) (c:Mv j g d f):Mv w g v f:=by
 have l:=a.size;refine⟨⟨c.grown.os.trans a.grown.os,c.grown.tape.trans a.grown.tape,c.grown.output.trans a.grown.output,zau l c.size,fun k n i=>?_⟩,fun b m=>?_⟩
 ·rw[c.grown.block k (by omega) (fun e=>?_)]
  ·exact a.grown.block k n i
  ·rcases a.lies k e.symm with h | h
   ·exact i h.symm
   ·omega
 ·rcases c.lies b m with h | h
  ·exact a.lies b h
  ·exact .inr (by omega)
theorem Mv.drew (h:Mv w w' v v'):Mv w w'.drew v v':=⟨⟨h.grown.os,h.grown.tape,h.grown.output,h.grown.size,h.grown.block⟩,h.lies⟩
theorem Mv.below (h:Mv w w' v v') {B:Nat} {l:List Int} (a:Qt w B v l) (b:B<=w.heap.size):Below B w w':=
 ⟨h.grown.os,h.grown.tape,h.grown.output,h.size,fun k c=>h.grown.block k (by omega) (fun e=>by have:=(zaz a k e.symm).1;omega)⟩
theorem Mv.app (h:w.grownBy w' v.ownBlock) (d:w.heap.size=N) (a:v'.ownBlock=v.ownBlock∨∃ g,v'.ownBlock=some g∧N<=g):Mv w w' v v':=by
 refine⟨h,fun b c=>?_⟩
 rcases a with a | ⟨g,a,e⟩
 ·exact .inl (by rw[<-a];exact c)
 ·rw[a] at c
  injection c with c
  exact .inr (by omega)
theorem Zas (g:Nat):∀ (vs:List Value) (o:Nat) (w:World) (k:Nat),k≠g->(w.setCells g o vs).heap[k]?=w.heap[k]?
 | [],_,_,_,_=>rfl
 | v::r,o,w,k,h=>by
  rw[World.setCells,Zas g r (o+1) _ k h];exact zat _ _ _ _ h
theorem Mv.cells {n' c':Nat} (h:Mv w w' v (.slice (some ⟨g,0,none⟩) n c)) (o:Nat) (vs:List Value):Mv w (w'.setCells g o vs) v (.slice (some ⟨g,0,none⟩) n' c'):=by
 have d:=G8 (B:=0) (g:=g) (a:=w') (zap _) vs o w' (zac _ _);refine⟨⟨d.os.trans h.grown.os,d.tape.trans h.grown.tape,d.output.trans h.grown.output,zau h.size d.size,fun k i f=>?_⟩,fun b d=>h.lies b d⟩
 rw[Zas g vs o w' k (fun e=>?_)]
 ·exact h.grown.block k i f
 ·rcases h.lies g rfl with h' | h'
  ·exact f (by rw[e,h'])
  ·omega
theorem Mv.made {e:Value} (h:Mv w w' v e) (X:Obj) (n c:Nat):Mv w (w'.alloc X) v (.slice (some ⟨w'.heap.size,0,none⟩) n c):=by
 have a:=(zac w'.heap.size w').alloc zL X;refine⟨⟨a.os.trans h.grown.os,a.tape.trans h.grown.tape,a.output.trans h.grown.output,zau h.size a.size,fun k f d=>?_⟩,fun b a=>.inr ?_⟩
 ·rw[a.block k (by have:=h.size;omega)]
  exact h.grown.block k f d
 ·have:=Zpa a
  have:=h.size;omega
theorem Mv.drewN (h:Mv w w' v v') (q:Nat):Mv w (w'.drewN q) v v':=by
 have a:=X6 (zac 0 w') q;exact⟨⟨a.os.trans h.grown.os,a.tape.trans h.grown.tape,a.output.trans h.grown.output,zau h.size a.size,fun k c b=>by rw[ZkE];exact h.grown.block k c b⟩,h.lies⟩
theorem Qt.put {l:List Int} (h:Qt w B v l) (j:Nat) (d:j<l.length) (n:Int):
 ∃ g cap,v=.slice (some ⟨g,0,none⟩) l.length cap∧w.cell? ⟨g,j,none⟩=some (.int .i64 (l.getD j 0))∧w.frozen? ⟨g,j,none⟩=false∧B<=g∧g<w.heap.size∧Qt (w.setCell ⟨g,j,none⟩ (.int .i64 n)) B v (l.set j n)∧Mv w (w.setCell ⟨g,j,none⟩ (.int .i64 n)) v v:=by
 rcases h.row with ⟨_,a⟩ | ⟨g,cap,cur,rfl,a,u,b,q,p,t,k⟩
 ·subst a;simp at d
 ·refine⟨g,cap,rfl,?_,zbc w g j _ _ b,a,u,?_,(Mv.refl w (.slice (some ⟨g,0,none⟩) l.length cap)).cells j [_]⟩
  ·rw[zas w g j _ _ _ b]
   exact k j d
  ·have e:l.length=(l.set j n).length:=by simp
   rw[e];refine Qt.ofRow a (zbk w g j _ _ _ b) (by rw[<-e];exact q) p (by simpa using t) (fun i c=>?_)
   rw[<-e] at c;by_cases f:i=j
   ·subst f
    have:i<cur.size:=by omega
    simp[this,List.getD,c]
   ·have m:¬ j=i:=fun h=>f h.symm
    have:=k i c;simp[m,this,List.getD]
theorem ZfQ (v:Value) (l:List Int) (w:World) (m:RdI w v l) (p:l.length<=1000000):
 Calls prog 39 #[v] w fun e w'=>∃ v',e=.returned v'∧Qt w' w.heap.size v' l∧Below w.heap.size w w':=by
 obtain⟨ao,cap,rfl,q,t,k,u,f⟩:=m
 cases ao with
 | none=>
  have j:=k rfl;have d:l=[]:=eq_nil_of_length_eq_zero (by omega)
  subst d;refine zcv (Any.slices_Clone_int_nil Zvf _ cap w) ?_;rintro e w' ⟨rfl,rfl⟩;exact⟨_,rfl,Qt.nil _ _,zac _ _⟩
 | some a=>
  by_cases d:l=[]
  ·subst d
   refine zcv (Any.slices_Clone_int_zero Zvf a cap w) ?_;rintro e w' ⟨v',rfl,c,_,i⟩;exact⟨v',rfl,c,i⟩
  ·rcases f with f | ⟨b,n,g,j⟩
   ·exact absurd f d
   ·injection g with g
    subst g;refine zcv (Any.slices_Clone_int Zvf b n l.length cap l w zL (by omega) j) ?_
    rintro e w' ⟨v',rfl,c,_,i⟩;refine⟨v',rfl,?_,i⟩;rw[take_length] at c;exact c
theorem ZsH (g:Value) (A:List Int) (f:Value) (B:List Int) (w:World) (y:RdI w g A) (z:RdI w f B):
 Calls prog 89 #[g,f] w fun e w'=>e=.returned (.bool (decide (A=B)))∧Below w.heap.size w w':=by
 obtain⟨ao,cap,rfl,E,n,I,L,b⟩:=y;obtain⟨i,a,rfl,D,l,F,K,c⟩:=z;by_cases j:A.length=B.length
 ·by_cases d:A.length=0
  ·have C:A=[]:=eq_nil_of_length_eq_zero d
   have x:B=[]:=eq_nil_of_length_eq_zero (by omega)
   subst C;subst x;refine zcv (Any.slices_Equal_int_empty ZAU ao i cap 0 a w (by omega)) ?_
   rintro e w' ⟨rfl,rfl⟩;exact⟨rfl,zac _ _⟩
  ·rcases b with b | ⟨k,v,rfl,p⟩
   ·rw[b] at d;simp at d
   rcases c with c | ⟨m,u,rfl,t⟩
   ·have J:B.length=0:=by rw[c];rfl
    omega
   have G:cap<=9223372036854775807:=by unfold maxLen at n;omega
   have H:a<=9223372036854775807:=by unfold maxLen at l;omega
   refine zcv (Any.slices_Equal_int ZAU k v A.length cap m u B.length a A B w zL zL (by omega) (by omega) p t) ?_
   rintro e w' ⟨rfl,q,rfl⟩;refine⟨?_,X6 (zac _ _) q⟩;rw[take_length,take_length];by_cases h:A=B
   ·rw[zan h,zbi.2 h]
   ·rw[zai h,zah.2 h]
 ·refine zcv (Any.slices_Equal_int_lens ZAU ao i A.length cap B.length a w j) ?_
  rintro e w' ⟨rfl,rfl⟩;exact⟨by rw[zai (fun h=>j (by rw[h]))],zac _ _⟩
theorem Zip (v:Value) (l:List Int) (B:Nat) (w:World) (n:Qt w B v l) (i j:Nat) (A:i<j) (c:j<=l.length) (I J:Int) (t:I=i) (p:J=j):
 Calls prog 210 #[v,.int .i64 I,.int .i64 J] w fun e w'=>∃ v',e=.returned v'∧Qt w' B v' (l.take i++l.drop j)∧Mv w w' v v':=by
 subst t;subst p;rcases n.row with ⟨_,x⟩ | ⟨g,cap,cur,rfl,u,C,b,m,y,d,f⟩
 ·subst x;simp at c;omega
 ·unfold maxLen at y
  refine zcv (Any.slices_Delete_int_cells ZAj g 0 l.length cap i j l w zL m (by omega) (by omega) c
   (fun k a=>by rw[za9,zas w g k _ _ _ b];exact f k a) (fun k a=>by rw[za9];exact zbc w g k _ _ b)) ?_
  rintro e w' ⟨rfl,q,rfl⟩;refine⟨_,rfl,?_,((Mv.refl w (.slice (some ⟨g,0,none⟩) l.length cap)).drewN q).cells _ _⟩;have z:(l.take i++l.drop j).length=l.length-(j-i):=by simp;omega
  rw[<-z];refine Qt.ofRow u (X3 g _ _ _ _ cur (by rw[ZkE];exact b)) (by omega) (by unfold maxLen;omega) (by rw[Xr];exact d) (fun k a=>?_)
  rw[Ys _ _ _ _ (by omega),take_length,zab (by simp at a ⊢;omega),ze6,zc1,zbg (by simpa using a)]
  exact Zz _ k a
theorem get3 {α:Type} (A vs:List α) (i:Nat) (d:i<=A.length) (j:Nat):(A.take i++(vs++A.drop i))[j]?=if j<i then A[j]? else if j<i+vs.length then vs[j-i]? else A[j-vs.length]?:=by
 have c:(A.take i).length=i:=by simp;omega
 by_cases a:j<i
 ·rw[zab a,zbg (by omega),zcc a]
 ·rw[zaa a,zbs (by omega),c]
  by_cases b:j<i+vs.length
  ·rw[zab b,zbg (by omega)]
  ·rw[zaa b,zbs (by omega),zex]
   congr 1
   omega
theorem ZcI (A B:List Int):Qr (A++B)=Qr A++Qr B:=by simp[Qr]
theorem ZlP (A:List Int) (i:Nat):Qr (A.take i)=(Qr A).take i:=by simp[Qr]
theorem ZlQ (A:List Int) (i:Nat):Qr (A.drop i)=(Qr A).drop i:=by simp[Qr]
theorem ZeO (l:List Int) (i:Nat) (b:i<=l.length) (x y:Int) (j:Nat) (a:j<(l.take i++([x,y]++l.drop i)).length):
 some (.int .i64 ((l.take i++([x,y]++l.drop i)).getD j 0))=if j<i then(Qr l)[j]? else if j<i+2 then[Value.int .i64 x,.int .i64 y][j-i]? else(Qr l)[j-2]?:=by
 rw[<-Zz _ j a,ZcI,ZcI,ZlP,ZlQ];exact get3 (Qr l) (Qr [x,y]) i (by rw[Zp];exact b) j
theorem Zpy (v:Value) (l:List Int) (B:Nat) (w:World) (ho:Qt w B v l) (hB:B<=w.heap.size) (ag:l.length<=1000000) (i:Nat) (Q:i<=l.length) (I:Int) (hI:I=i) (x y:Int) (N:Nat) (hN:N=w.heap.size):
 Calls prog 212 #[v,.int .i64 I,.slice (some ⟨N,0,none⟩) 2 2] (w.alloc (.cells #[.int .i64 x,.int .i64 y] 3)) fun e w'=>∃ v',e=.returned v'∧Qt w' B v' (l.take i++([x,y]++l.drop i))∧Mv w w' v v':=by
 subst hI;subst hN;have F:Mv w (w.alloc (.cells #[.int .i64 x,.int .i64 y] 3)) v v:=Mv.alloc w v _;have H:=zak w (.cells #[.int .i64 x,.int .i64 y] 3);have aj:(w.alloc (.cells #[.int .i64 x,.int .i64 y] 3)).heap.size=w.heap.size+1:=by simp
 have ad:∀ k,k<w.heap.size->(w.alloc (.cells #[.int .i64 x,.int .i64 y] 3)).heap[k]?=w.heap[k]?:=fun k hk=>zav _ _ _ hk
 generalize w.alloc (.cells #[.int .i64 x,.int .i64 y] 3)=W at *;have m:(l.take i++([x,y]++l.drop i)).length=l.length+2:=by simp;omega
 have z:∀ j u,[Value.int .i64 x,.int .i64 y][j]?=some u->W.cell? ⟨w.heap.size,0+j,none⟩=some u:=fun j u d=>by
  rw[za9,zas W w.heap.size j _ _ _ H];simpa using d
 have C:∀ u ∈ [Value.int .i64 x,.int .i64 y],u.oneCell'=true:=fun u d=>by
  simp at d;rcases d with rfl | rfl <;> rfl
 have f:=Zp l;have T:=ZmM l;have A:(Value.int .i64 0).cells.size=1:=rfl;have L:ZkD.t 3=3:=rfl;rcases ho.row with ⟨rfl,rfl⟩ | ⟨g,cap,cur,rfl,S,af,hg,X,R,J,U⟩
 ·have ac:i=0:=by simpa using Q
  subst ac;refine zcv (Any2.slices_Insert_int_end_grow ZnC none 0 0 w.heap.size 0 2 2 [] [.int .i64 x,.int .i64 y] W (by omega) (by omega) (by omega) (by omega) rfl rfl (fun _=>rfl) (fun a D=>by cases D) z C) ?_
  rintro e w' ⟨rfl,rfl⟩;rw[L];have P:=zgj W (0+2) 0 3;have p:=zey W (0+2) 0 3 (by unfold maxLen;omega)
  refine⟨_,rfl,?_,F.drew.made _ _ _⟩;have e2:0+2=([x,y]:List Int).length:=rfl;show Qt _ B (.slice (some ⟨W.heap.size,0,none⟩) (0+2) (grownCap W (0+2) 0 3)) [x,y];generalize grownCap W (0+2) 0 3=q at *
  exact Qt.ofRow (by omega) (zak W.drew _) P p (by simp[zfn,A];omega) (fun j b=>by
   have ae:j=0∨j=1:=by simp at b;omega
   rcases ae with rfl | rfl <;> (rw[zdw (by simp)];rfl))
 ·have n:W.heap[g]?=some (.cells cur 3 (0,0)):=(ad g af).trans hg
  have O:∀ j u,(Qr l)[j]?=some u->W.cell? ⟨g,0+j,none⟩=some u:=fun j u d=>by
   have b:j<l.length:=by rw[<-f];exact(zbr.1 d).1
   rw[za9,zas W g j _ _ _ n,U j b,<-Zz l j b,d]
  have aa:∀ j,j<l.length->cur[j]?=(Qr l)[j]?:=fun j b=>by rw[U j b,Zz l j b]
  have ab:cap<=9223372036854775807:=by unfold maxLen at R;omega
  by_cases Y:l.length+2<=cap
  ·have V:∀ j,j<l.length+2->(W.cell? ⟨g,0+j,none⟩).isSome=true:=fun j b=>by
    rw[za9,zas W g j _ _ _ n,zd2 (by omega)]
    rfl
   have Z:∀ j,j<l.length+2->W.frozen? ⟨g,0+j,none⟩=false:=fun j b=>zbc W g _ _ _ n
   by_cases M:i=l.length
   ·subst M
    refine zcv (Any2.slices_Insert_int_end_room ZnC g 0 l.length cap w.heap.size 0 2 2 [.int .i64 x,.int .i64 y] W (by omega) Y ab rfl
     (fun j b=>by rw[zb1];exact V _ (by omega)) (fun j b=>by rw[zb1];exact Z _ (by omega)) z C) ?_
    rintro e w' ⟨rfl,rfl⟩;refine⟨_,rfl,?_,F.cells _ _⟩;rw[<-m];refine Qt.ofRow S (X3 g _ _ _ _ cur n) (by omega) R (by rw[Xr];exact J) (fun j b=>?_)
    rw[Ys _ _ _ _ (by omega),ZeO l l.length zL x y j b,za9]
    rw[m] at b;by_cases c:j<l.length
    ·rw[zaa (by omega),zab c,aa j c]
    ·rw[zab (by simp;omega),zaa c,zab (by omega)]
   ·refine zcv (Any2.slices_Insert_int_shift ZnC g 0 l.length cap i w.heap.size 0 2 2 (Qr l) [.int .i64 x,.int .i64 y] W (by omega) (by omega) Y ab (by omega) f rfl O V Z z T C
     3 3 2 cap (by simp[World.shape?,H]) (by simp[World.shape?,n,J]) (by omega) (zbc W _ _ _ _ H) (zbc W _ _ _ _ H)) ?_
    rintro e w' ⟨rfl,rfl⟩;refine⟨_,rfl,?_,(Mv.cells (n':=0) (c':=0) F.drew _ _).cells _ _⟩;rw[<-m];refine Qt.ofRow S (X3 g _ _ _ _ _ (X3 g _ _ _ _ cur n)) (by omega) R (by rw[Xr,Xr];exact J) (fun j b=>?_)
    rw[Ys _ _ _ _ (by rw[Xr];omega),Ys _ _ _ _ (by omega),ZeO l i Q x y j b,za9,za9]
    rw[m] at b;have K:((Qr l).drop i).length=l.length-i:=by simp[Qr]
    rw[K];by_cases c:j<i
    ·rw[zaa (by omega),zaa (by omega),zab c,aa j (by omega)]
    ·by_cases E:j<i+2
     ·rw[zab (by simp;omega),zaa c,zab E]
     ·rw[zaa (by simp;omega),zab (by omega),zaa c,zaa E,zex]
      congr 1
      omega
  ·by_cases M:i=l.length
   ·subst M
    refine zcv (Any2.slices_Insert_int_end_grow ZnC (some ⟨g,0,none⟩) l.length cap w.heap.size 0 2 2 (Qr l) [.int .i64 x,.int .i64 y] W (by omega) X (by omega) (by omega) f rfl (fun h=>by cases h)
     (fun a D j u d=>by injection D with D;subst D;rw[zbn];exact O j u d) z C) ?_
    rintro e w' ⟨rfl,rfl⟩;rw[L];have P:=zgj W (l.length+2) cap 3;have p:=zey W (l.length+2) cap 3 (by unfold maxLen;omega)
    refine⟨_,rfl,?_,F.drew.made _ _ _⟩;show Qt _ B (.slice (some ⟨W.heap.size,0,none⟩) (l.length+2) (grownCap W (l.length+2) cap 3)) _;generalize grownCap W (l.length+2) cap 3=q at *;rw[<-m];refine Qt.ofRow (by omega) (zak W.drew _) (by omega) p (by simp[zfn,A,f];omega) (fun j b=>?_)
    rw[ZeO l l.length zL x y j b];rw[m] at b;rw[zdw (by simp[f];omega),zef]
    by_cases c:j<l.length
    ·rw[zab c,zbg (by omega)]
    ·rw[zaa c,zab (by omega),zbs (by omega),f]
   ·refine zcv (Any2.slices_Insert_int_grow ZnC g 0 l.length cap i w.heap.size 0 2 2 (Qr l) [.int .i64 x,.int .i64 y] W (by omega) (by omega) X (by omega) (by omega) f rfl O z T C) ?_
    rintro e w' ⟨rfl,rfl⟩;rw[L];have P:=zgj W (l.length+2) cap 3;have p:=zey W (l.length+2) cap 3 (by unfold maxLen;omega)
    refine⟨_,rfl,?_,((F.made _ 0 0).drew.cells (n':=0) (c':=0) _ _).drew.cells _ _⟩;show Qt _ B (.slice (some ⟨W.heap.size,0,none⟩) (l.length+2) (grownCap W (l.length+2) cap 3)) _;generalize grownCap W (l.length+2) cap 3=q at *;have G:((Qr l).take i).length=i:=by simp[f];omega
    have K:((Qr l).drop i).length=l.length-i:=by simp[Qr]
    refine Qt.ofRowN m.symm (cur:=Zfu (Zfu (((Qr l).take i).toArray++Builtin.zeroCells (Value.int .i64 0).cells (l.length+2-i)++Builtin.zeroCells (Value.int .i64 0).cells (q-(l.length+2))) i [.int .i64 x,.int .i64 y]) (i+2) ((Qr l).drop i)) (by omega) (X3 _ _ _ _ _ _ (X3 _ _ _ _ _ _ (zak W _))) (by omega) p ?_ (fun j b=>?_)
    ·rw[Xr,Xr]
     simp[zfn,A,G];omega
    ·rw[ZeO l i Q x y j b]
     rw[m] at b
     have ai:(((Qr l).take i).toArray++Builtin.zeroCells (Value.int .i64 0).cells (l.length+2-i)++Builtin.zeroCells (Value.int .i64 0).cells (q-(l.length+2))).size=q:=by
      simp[zfn,A,G];omega
     rw[Ys _ _ _ _ (by rw[Xr];omega),Ys _ _ _ _ (by omega),K]
     by_cases c:j<i
     ·rw[zaa (by omega),zaa (by omega),zab c,zdw (by simp[zfn,A,G];omega),zdw (by simp[G];omega),zef,zcc c]
     ·by_cases E:j<i+2
      ·rw[zaa (by omega),zab (by simp;omega),zaa c,zab E]
      ·rw[zab (by omega),zaa c,zaa E,zex]
       congr 1
       omega
theorem Xp.row (h:Xp w B v l):(v=.slice none 0 0∧l=[])∨
 ∃ g cap cur,v=.slice (some ⟨g,0,none⟩) l.length cap∧B<=g∧g<w.heap.size∧w.heap[g]?=some (.cells cur 85 (0,0))∧l.length<=cap∧cap<=maxLen∧cur.size=cap*3∧∀ j,j<l.length*3->cur[j]?=(Qg l)[j]?:=by
 rcases h.2 with ⟨a,f⟩ | ⟨g,cap,cur,a,n,b,d,i,m,k⟩
 ·have e:l=[]:=eq_nil_of_length_eq_zero f
  subst e;exact .inl ⟨a,rfl⟩
 ·refine .inr ⟨g,cap,cur,a,n,(zar.1 b).1,b,d,i,m,fun j c=>?_⟩
  rw[<-k,zcc c,zb2]
theorem Xp.ofRow (k:n=l.length) (b:B<=g) (d:w.heap[g]?=some (.cells cur 85 (0,0))) (f:l.length<=cap) (i:cap<=maxLen) (c:cur.size=cap*3) (e:∀ j,j<l.length*3->cur[j]?=(Qg l)[j]?):
 Xp w B (.slice (some ⟨g,0,none⟩) n cap) l:=by
 subst k;refine⟨by rw[Xk],.inr ⟨g,cap,cur,rfl,b,d,f,i,c,?_⟩⟩
 apply zek;intro j;by_cases a:j<l.length*3
 ·rw[zcc a,zb2]
  exact e j a
 ·rw[zbw (by simp;omega),zbw (by rw[Xk];omega)]
theorem Xp.empty (w:World) (B:Nat) (a:B<=w.heap.size):Xp (w.alloc (.cells #[] 85)) B (.slice (some ⟨w.heap.size,0,none⟩) 0 0) []:=
 Xp.ofRow (l:=[]) rfl a (zak w _) zL (zap _) rfl (fun j b=>absurd b (by simp))
theorem Zce:∀ (l:List Ent) (i:Nat),Qg (l.take i)=(Qg l).take (i*3)
 | l,0=>by simp[Qg]
 | [],i+1=>by simp[Qg]
 | x::t,i+1=>by
  rw[zdr,show(i+1)*3=i*3+1+1+1 by omega]
  show Value.int .i64 x.proc::.int .i64 x.seq::.int .i64 x.resp::Qg (t.take i)=(Value.int .i64 x.proc::.int .i64 x.seq::.int .i64 x.resp::Qg t).take (i*3+1+1+1);rw[Zce t i];rfl
theorem Zcf:∀ (l:List Ent) (i:Nat),Qg (l.drop i)=(Qg l).drop (i*3)
 | l,0=>by simp
 | [],i+1=>by simp[Qg]
 | x::t,i+1=>by
  rw[zfd,show(i+1)*3=i*3+1+1+1 by omega]
  show Qg (t.drop i)=(Value.int .i64 x.proc::.int .i64 x.seq::.int .i64 x.resp::Qg t).drop (i*3+1+1+1);rw[Zcf t i];rfl
theorem Xp.cut (h:Xp w B (.slice (some ⟨g,0,none⟩) n cap) l) (i:Nat) (q:i<=l.length):Xp w B (.slice (some ⟨g,0,none⟩) i cap) (l.take i):=by
 rcases h.row with ⟨a,-⟩ | ⟨g',p,cur,a,f,t,d,m,k,b,e⟩
 ·cases a
 ·injection a with a h2 h3
  injection a with a
  injection a with a
  subst a h3
  exact Xp.ofRow (by rw[length_take];omega) f d (by rw[length_take];omega) k b (fun j c=>by
   rw[length_take] at c
   rw[e j (by omega),Zce,zcc (by omega)])
theorem Xp.cells (h:Xp w B (.slice (some ⟨g,0,none⟩) n cap) l) (o:Nat) (p:l.length*3<=o) (vs:List Value):Xp (w.setCells g o vs) B (.slice (some ⟨g,0,none⟩) n cap) l:=by
 rcases h.row with ⟨a,-⟩ | ⟨g',m,cur,a,i,q,e,c,k,b,f⟩
 ·cases a
 ·injection a with a h2 h3
  injection a with a
  injection a with a
  subst a h3
  exact Xp.ofRow h2 i (X3 g _ vs o w cur e) c k (by rw[Xr];exact b) (fun j d=>by
   rw[Ys _ _ _ _ (by omega),zaa (by omega)]
   exact f j d)
theorem Xp.put (h:Xp w B (.slice (some ⟨g,0,none⟩) n cap) l) (i:Nat) (v:i<l.length) (e:Ent):Xp (w.setCells g (i*3) (Qg [e])) B (.slice (some ⟨g,0,none⟩) n cap) (l.set i e):=by
 rcases h.row with ⟨a,-⟩ | ⟨g',z,cur,a,x,A,t,f,y,d,u⟩
 ·cases a
 ·injection a with a h2 h3
  injection a with a
  injection a with a
  subst a h3;have p:(Qg [e]).length=3:=Xk [e];refine Xp.ofRow (by rw[length_set];exact h2) x (X3 g _ _ _ w cur t) (by rw[length_set];exact f) y (by rw[Xr];exact d) (fun j m=>?_)
  rw[length_set] at m;obtain⟨q,k,b,rfl⟩:∃ q k,k<3∧j=q*3+k:=⟨j / 3,j % 3,zfm _ (by decide),by omega⟩
  rw[Ys _ _ _ _ (by omega),p,Z0 (l.set i e) q k (by rw[length_set];omega) b]
  by_cases c:q=i
  ·subst c
   rw[zab (by omega),show q*3+k-q*3=0*3+k by omega,Z0 [e] 0 k (by simp) b]
   congr 2
   simp[List.getD,v]
  ·rw[zaa (by omega),u _ (by omega),Z0 l q k (by omega) b]
   congr 2
   have:¬ i=q:=fun h=>c h.symm
   simp[List.getD,this]
theorem RdE.cells {a:Addr} (h:RdE w (.slice (some a) n cap) l):∀ j u,(Qg l)[j]?=some u->w.cell? (a.add j)=some u:=by
 obtain⟨ao,c,g,C,B,y,A,f⟩:=h
 injection g with g _ _
 subst g;intro j u d;have i:j<l.length*3:=by rw[<-Xk];exact(zbr.1 d).1
 rcases f with f | ⟨b,z,e,x⟩
 ·rw[f] at i
  simp at i
 ·injection e with e
  subst e;obtain⟨q,k,m,rfl⟩:∃ q k,k<3∧j=q*3+k:=⟨j / 3,j % 3,zfm _ (by decide),by omega⟩
  rw[Z0 l q k (by omega) m] at d
  obtain⟨p,v,t⟩:=x q (by omega)
  rw[zbn,<-zb1]
  match k,m with
  | 0,_=>exact p.trans d
  | 1,_=>exact v.trans d
  | 2,_=>exact t.trans d
theorem Ziq (w:World) (ty:TypeId) (B:Nat) (v:Value) (l:List Ent) (h:Xp w B v l) (d:Value) (m:List Ent) (c:RdE w d m) (A:l.length+m.length<=1000000) (e:B<=w.heap.size):
 ∃ v' w',(Builtin.append_ #[39,39] ty #[v,d]).run prog w=.ok v' w'∧Xp w' B v' (l++m)∧Below B w w':=by
 obtain⟨f,g,n,j,x⟩:=zbx Zhl;have y:=c;obtain⟨ao,cap,rfl,C,D,p,E,F⟩:=c
 cases ao with
 | none=>
  have i:=p rfl;subst i;have z:m=[]:=eq_nil_of_length_eq_zero (by omega)
  subst z;have b:=zc6 (P:=prog) w B 39 ty 85 f 3 underlying39 g v l.length (Qg l) h;exact⟨v,w,b,by rw[append_nil];exact h,zac _ _⟩
 | some a=>
  obtain⟨v',w',b,t,u,_⟩:=zdn (P:=prog) w B 39 ty 85 f _ 3 24 underlying39 g n j x rfl (by decide) v l.length (Qg l) h
   a m.length cap (Qg m) (Xk m) y.cells (Zac m) (by unfold maxLen;omega) (by omega) e
  refine⟨v',w',b,?_,?_⟩
  ·unfold Xp
   rw[length_append,ZaA];exact t
  ·exact(zac _ _).grown u e (fun k q=>(zaz h k q).1)
theorem Zal (w:World) {c:Array Oper} {rest:List Oper} {o:Oper} {a:Act} {Q:Exit->Act->World->Prop} (i:o.guard=none) (s x:Operand)
 (n:o.op=.call { callee:=.builtin .append,args:=#[s,x],argTypes:=#[39,39] })
 (B:Nat) (v:Value) (l:List Ent) (d:a.eval s=v) (p:Xp w B v l) (b:Value) (m:List Ent) (t:a.eval x=b) (j:RdE w b m)
 (e:l.length+m.length<=1000000) (k:B<=w.heap.size)
 (h:∀ v' w',Xp w' B v' (l++m)->Below B w w'->wpList prog c Q rest (a.put o.dst v') w'):wpList prog c Q (o::rest) a w:=
 zb0 i fun _ f=>by
  obtain⟨v',w',g,u,q⟩:=Ziq w o.type B v l p b m j e k;unfold Oper.wp execOp;simp only [n,resolve,invoke,builtin,zbt,zbv,zbe,zch,map_cons,map_nil,d,t,g];exact f _ _ (h v' w' u q)
theorem ZfR (v:Value) (l:List Ent) (w:World) (d:RdE w v l) (q:l.length<=1000000):
 Calls prog 40 #[v] w fun e w'=>∃ v',e=.returned v'∧Xp w' w.heap.size v' l∧Below w.heap.size w w':=by
 have p:=ZZ d;obtain⟨ao,cap,rfl,k,-,b,-⟩:=d
 cases ao with
 | none=>
  obtain rfl:cap=0:=b rfl;obtain rfl:l=[]:=eq_nil_of_length_eq_zero (by omega)
  clear b k;have i:∀ w,(binOp .eql 39 (.slice none 0 0) (.slice none 0 0)).run prog w=.ok (.bool true) w:=fun w=>zc5 w _ _ none 0 0 underlying39
  go_enter func40,ntmps40
  go_wp2;go_ret;exact⟨_,rfl,Xp.nil _ _,zac _ _⟩
 | some a=>
  clear b;have i:∀ w,(binOp .eql 39 (.slice (some a) l.length cap) (.slice none 0 0)).run prog w=.ok (.bool false) w:=fun w=>zc5 w _ _ (some a) _ _ underlying39
  have c:Hid (∀ X,Below w.heap.size w (w.alloc X)):=fun X=>(zac _ _).alloc zL X
  have j:Hid (Xp (w.alloc (.cells #[] 85)) w.heap.size (.slice (some ⟨w.heap.size,0,none⟩) 0 0) []):=ZZ (Xp.empty w _ zL)
  go_enter func40,ntmps40
  go_wp2_with(at_builtin;refine Zal _ rfl _ _ rfl w.heap.size _ [] rfl j.o _ l rfl (p.o.below (c.o _) zL) (by simp;omega) (by simp) ?_)
  intro u t g f;have m:=ZZ g;have n:=ZZ ((c.o _).trans f);clear g f;go_wp2;go_ret;exact⟨_,rfl,m.o,n.o⟩
def ZyQ (p:Ent->Bool) (l:List Ent) (k:Int):Prop:=(k=-1∧∀ j,j<l.length->p (l.getD j Xj)=false)∨∃ i:Nat,k=(i:Int)∧i<l.length∧(∀ j,j<i->p (l.getD j Xj)=false)∧p (l.getD i Xj)=true
theorem ZdA (g R:Nat) (p:Ent->Bool) (v:Value) (l:List Ent) (w:World) (D:RdE w v l)
 (U:∀ args W,(callFunc g args).run prog W=.ok (.enter g args) W)
 (K:∀ W e,Below w.heap.size w W->Calls prog g #[ZsD e,.pointer (some ⟨R,0,none⟩)] W fun x w'=>x=.returned (.bool (p e))∧Below W.heap.size W w'):
 Calls prog 87 #[v,.func (.func g) #[] #[.pointer (some ⟨R,0,none⟩)]] w fun x w'=>∃ k:Int,x=.returned (.int .i64 k)∧ZyQ p l k∧Below w.heap.size w w':=by
 have P:=ZZ D;have B:=ZZ K;obtain⟨Z,vc,rfl,N,C,-,-,F⟩:=D;have G:=ZZ F;have aa:(l.length:Int)<=9223372036854775807:=by unfold maxLen at C;omega
 clear K N C F
 go_enter func87,ntmps87
 go_wp2
 go_loopw[8] (fun n wr=>∃ q:Nat,n=.int .i64 (q:Int)∧q<=l.length∧Hid (∀ j,j<q->p (l.getD j Xj)=false)∧Hid (Below w.heap.size w wr)) (fun n _=>l.length-(intOf n).toNat)
 case atStart=>exact⟨0,rfl,zap _,ZZ (fun j f=>absurd f (zcg _)),zac _ _⟩
 case round=>
  obtain⟨q,rfl,Q,y,c⟩:=hrel;by_cases d:q<l.length
  case neg=>
   obtain rfl:q=l.length:=by omega
   go_wp2;go_ret;exact⟨-1,rfl,.inl ⟨rfl,y.out⟩,c.out⟩
  have T:(q:Int)<(l.length:Int):=by omega
  rcases G.o with M | ⟨b,X,rfl,i⟩
  ·rw[M] at d;simp at d
  obtain⟨z,E,A⟩:=(i q d).keep (c.out.block b (i q d).lt);have a:=ZZ (B.o wr (l.getD q Xj) c.out);have O:Hid (∀ j,j<q+1->j=q∨j<q):=ZZ (fun j f=>by omega)
  obtain⟨e,t⟩:=zg7 (l.getD q Xj);rw[<-t] at a z E A;have J:=ZZ t;obtain⟨u,m⟩:=zg7 (p e);rw[<-m] at a;have L:=ZZ m;clear t i B G P m;unfold ZsD at a;obtain⟨ep,S,V⟩:=e;simp only at a z E A
  go_wp2_with fail
  refine a.o.mono ?_;rintro x Y ⟨rfl,I⟩;have H:=ZZ (c.out.trans (I.mono c.out.size));clear I a
  cases u with
  | true=>
   go_wp2;go_ret;exact⟨(q:Int),rfl,.inr ⟨q,rfl,d,y.out,by rw[<-J.o];exact L.o.symm⟩,H.o⟩
  | false=>
   go_wp2;go_roundw
   case rel=>exact⟨q+1,by go_num,by omega,ZZ (fun j f=>by
    rcases O.o j f with h | h
    ·rw[h,<-J.o];exact L.o.symm
    ·exact y.out j h),H⟩
   case measure=>simp[intOf];omega
theorem Zea (p:Ent->Bool) (l:List Ent) (j:Nat) (a:j<l.length):(l.take (j+1)).filter (fun e=>!p e)=(l.take j).filter (fun e=>!p e)++if p (l.getD j Xj)=true then[] else[l.getD j Xj]:=by
 have b:l.take (j+1)=l.take j++[l.getD j Xj]:=by
  rw[zcl,za4 a];simp[List.getD,a]
 rw[b,zez]
 congr 1
 generalize l.getD j Xj=x
 cases h:p x <;> simp[h]
theorem Zir (p:Ent->Bool) (l:List Ent) (i:Nat) (c:i<=l.length) (h:∀ j,j<i->p (l.getD j Xj)=false):(l.take i).filter (fun e=>!p e)=l.take i:=by
 rw[zd9];intro e b;obtain⟨j,a,rfl⟩:=zds b;rw[length_take] at a;have:=h j (by omega)
 rw[List.getElem_take];simp only [List.getD,za4 (show j<l.length by omega),zgy] at this
 simp[this]
def ZgU (p:Ent->Bool) (l L:List Ent) (i j:Nat):Prop:=L.length=l.length∧L.take i=(l.take j).filter (fun e=>!p e)∧L.drop j=l.drop j∧i<j
theorem ZgU.start (b:i<l.length) (h:∀ j,j<i->p (l.getD j Xj)=false) (a:p (l.getD i Xj)=true):ZgU p l l i (i+1):=by
 refine⟨rfl,?_,rfl,zeq _⟩;rw[Zea p l i b,zab a,append_nil,Zir p l i (by omega) h]
theorem ZgU.at (h:ZgU p l L i j):L.getD j Xj=l.getD j Xj:=by
 obtain⟨f,e,c,d⟩:=h;have b:(L.drop j).getD 0 Xj=L.getD j Xj:=by simp[List.getD]
 have a:(l.drop j).getD 0 Xj=l.getD j Xj:=by simp[List.getD]
 rw[<-b,<-a,c]
theorem ZnD (h:L.drop j=l.drop j):L.drop (j+1)=l.drop (j+1):=by
 rw[<-drop_drop,<-drop_drop,h]
theorem ZgU.skip (h:ZgU p l L i j) (a:j<l.length) (c:p (l.getD j Xj)=true):ZgU p l L i (j+1):=by
 obtain⟨e,d,b,f⟩:=h;refine⟨e,?_,ZnD b,by omega⟩
 rw[Zea p l j a,zab c,append_nil,d]
theorem ZgU.keep (h:ZgU p l L i j) (a:j<l.length) (c:p (l.getD j Xj)=false):ZgU p l (L.set i (l.getD j Xj)) (i+1) (j+1):=by
 obtain⟨e,d,b,f⟩:=h;refine⟨by rw[length_set,e],?_,?_,by omega⟩
 ·rw[Zea p l j a,zaa (by rw[c];simp),<-d,zcl,zgf zL]
  congr 1
  rw[List.getElem?_set_self (by omega)]
  rfl
 ·rw[List.drop_set_of_lt (by omega)]
  exact ZnD b
theorem Xp.put3 (h:Xp w B (.slice (some ⟨g,0,none⟩) n cap) l) (i:Nat) (j:i<l.length) (p s r:Int) (a c b:Nat) (f:a=i*3) (d:c=i*3+1) (e:b=i*3+2):
 Xp (((w.setCell ⟨g,a,none⟩ (.int .i64 p)).setCell ⟨g,c,none⟩ (.int .i64 s)).setCell ⟨g,b,none⟩ (.int .i64 r)) B (.slice (some ⟨g,0,none⟩) n cap) (l.set i ⟨p,s,r⟩):=by
 subst f d e;exact h.put i j ⟨p,s,r⟩
theorem Xp.ent (h:Xp w B (.slice (some ⟨g,0,none⟩) n cap) l) (i:Nat) (j:i<l.length):Znw w g (i*3) (l.getD i Xj)∧(∀ k,w.frozen? ⟨g,k,none⟩=false)∧B<=g∧l.length<=cap∧cap<=maxLen∧n=l.length:=by
 rcases h.row with ⟨a,-⟩ | ⟨g',t,cur,a,m,u,c,d,p,q,f⟩
 ·cases a
 ·injection a with a h2 h3
  injection a with a
  injection a with a
  subst a h3
  have b:∀ k,k<3->w.cell? ⟨g,i*3+k,none⟩=(Gw (l.getD i Xj))[k]?:=fun k e=>by
   rw[zas w g (i*3+k) _ _ _ c,f _ (by omega),Z0 l i k j e]
  exact⟨⟨b 0 (by decide),b 1 (by decide),b 2 (by decide)⟩,fun k=>zbc w g k _ _ c,m,d,p,h2⟩
theorem Zpz {C:Nat} {b:World} (h:Below C b w) (R:Nat) (a:C<=R) (d i f:Nat) (c e g:Value):Below C b (((w.setCell ⟨R,d,none⟩ c).setCell ⟨R,i,none⟩ e).setCell ⟨R,f,none⟩ g):=
 ((h.setCell a _).setCell a _).setCell a _
theorem ZlR (w:World):(zeroValue 85).run prog w=.ok (.agg #[.int .i64 0,.int .i64 0,.int .i64 0]) w:=Tryz.zeroValue85 w
theorem Zis (g R:Nat) (p:Ent->Bool) (v:Value) (l:List Ent) (B:Nat) (w:World) (H:Xp w B v l) (hI:∀ e ∈ l,ZlO e) (K:B<=w.heap.size) (ax:l.length<=1000000)
 (eg:∀ args W,(callFunc g args).run prog W=.ok (.enter g args) W)
 (N:∀ W e,Below B w W->Calls prog g #[ZsD e,.pointer (some ⟨R,0,none⟩)] W fun x w'=>x=.returned (.bool (p e))∧Below W.heap.size W w'):
 Calls prog 86 #[v,.func (.func g) #[] #[.pointer (some ⟨R,0,none⟩)]] w fun x w'=>∃ v',x=.returned v'∧Xp w' B v' (l.filter (fun e=>!p e))∧Below B w w':=by
 have HO:=ZZ H;have HP:=ZZ N;have ad:=ZZ (ZdA g R p v l w (H.rd hI) eg (fun W e h=>N W e (h.mono K)))
 obtain⟨va,a,hv⟩:=H.shape;subst hv;clear H N
 go_enter func86,ntmps86
 go_wp2_with fail
 refine ad.o.mono ?_;rintro x W0 ⟨k,rfl,b,U⟩;have I:=ZZ (U.mono K);have A:=ZZ (HO.o.below U zL);clear ad U HO;rcases b with ⟨rfl,b⟩ | ⟨Q,rfl,J,b,ai⟩
 ·have HE:Hid (l.filter (fun e=>!p e)=l):=ZZ (by
   have:=Zir p l l.length zL b
   rwa [take_length] at this)
  clear b;go_wp2;go_ret;exact⟨_,rfl,by rw[HE.o];exact A.o,I.o⟩
 have Z:=ZZ (ZgU.start J b ai);clear b ai;rcases A.o.row with ⟨-,h2⟩ | ⟨f,cap,cur,V,ae,-,-,al,ak,-,-⟩
 ·rw[h2] at J;simp at J
 injection V with V _ h3
 subst V h3;have am:(l.length:Int)<=1000000:=by omega
 clear cur ak;have ei:((Q:Int) == -1)=false:=zah.2 (by omega)
 go_wp2
 go_loopw[5,6] (fun v5 T wr=>∃ (i j:Nat) (L:List Ent),v5=.int .i64 (i:Int)∧T=.int .i64 (j:Int)∧i<j∧j<=l.length∧Hid (Xp wr B (.slice (some ⟨f,0,none⟩) l.length a) L)∧Hid (ZgU p l L i j)∧Hid (Below B w wr)) (fun _ T _=>l.length-(intOf T).toNat)
 case atStart=>exact⟨Q,Q+1,l,rfl,by go_num,by omega,by omega,A,Z,I⟩
 case round=>
  clear A Z I ei;obtain⟨i,j,L,rfl,rfl,ay,aq,t,c,u⟩:=hrel;by_cases ac:j<l.length
  case neg=>
   obtain rfl:j=l.length:=by omega
   have hL:L.length=l.length:=c.out.1;have HT:Hid (L.take i=l.filter (fun e=>!p e)):=ZZ (by rw[c.out.2.1,take_length])
   have hE:=(t.out.ent i (by omega)).2.1
   have HK:Hid (∀ ty,(Builtin.clear_ #[39] ty #[.slice (some ⟨f,i*3,none⟩) (l.length-i) (a-i)]).run prog wr=.ok (.tuple #[]) (wr.setCells f (i*3) (Zbr (l.length-i)))):=ZZ (fun ty=>
    Zin wr _ _ _ underlying39 ZlR f (i*3) (l.length-i) (a-i) (by omega) (fun k hk=>by
     obtain⟨q,r,hr,rfl⟩:∃ q r,r<3∧k=q*3+r:=⟨k / 3,k % 3,zfm _ (by decide),by omega⟩
     have:=(t.out.ent (i+q) (by omega)).1
     rw[show i*3+(q*3+r)=(i+q)*3+r by omega]
     match r,hr with
     | 0,_=>rw[show(i+q)*3+0=(i+q)*3 from rfl,this.1];rfl
     | 1,_=>rw[this.2.1];rfl
     | 2,_=>rw[this.2.2];rfl) (fun k _=>hE _))
   have ag:=ZZ ((t.out.cut i (by omega)).cells (i*3) (by rw[length_take];omega) (Zbr (l.length-i)))
   rw[HT.o] at ag;have aj:=ZZ (G8 ae (Zbr (l.length-i)) (i*3) wr u.out);have an:¬ (a=i):=by omega
   have y:(i:Int)<=(l.length:Int):=by omega
   have aw:(i:Int)<=(a:Int):=by omega
   have ar:i<=l.length:=by omega
   have av:i<=a:=by omega
   clear hE;have hK:=HK.o;go_wp2;go_ret;exact⟨_,rfl,ag.o,aj.o⟩
  have ap:(j:Int)<(l.length:Int):=by omega
  have az:L.length=l.length:=c.out.1;obtain⟨⟨F,C,G⟩,-,-⟩:=t.out.ent j (by omega)
  rw[c.out.at] at F C G;have O:=ZZ (c.out.skip ac);have D:=ZZ (c.out.keep ac);obtain⟨e,he⟩:=zg7 (l.getD j Xj);rw[<-he] at F C G O D;obtain⟨M,aa⟩:=zg7 (p e);have z:=ZZ (fun W h=>HP.o W e h)
  rw[<-aa] at z O D;obtain⟨m,d,n⟩:=e;unfold ZsD at z;simp only at z F C G D;clear he aa c;have Y:Hid (∀ X,Below B w (wr.alloc X)):=ZZ (fun X=>u.out.alloc (zau K u.out.size) X)
  have HX:Hid (Be (wr.alloc (.cells #[.int .i64 m,.int .i64 d,.int .i64 n] 85)) wr.heap.size #[.int .i64 m,.int .i64 d,.int .i64 n]):=ZZ (zak wr _);have ab:Hid (∀ X,Xp (wr.alloc X) B (.slice (some ⟨f,0,none⟩) l.length a) L):=ZZ (fun X=>t.out.below ((zac _ _).alloc zL X) zL)
  go_wp2_with fail
  refine(z.o _ (Y.o _)).mono ?_;rintro x W1 ⟨rfl,y⟩;have af:=ZZ ((Y.o (.cells #[.int .i64 m,.int .i64 d,.int .i64 n] 85)).trans (y.mono (by have:=u.out.size;simp;omega)))
  have P:=ZZ (HX.o.below y zL);have S:=ZZ ((ab.o (.cells #[.int .i64 m,.int .i64 d,.int .i64 n] 85)).below y zL);clear y z Y HX ab F C G t u
  cases M with
  | true=>
   go_wp2;go_roundw
   case rel=>exact⟨i,j+1,L,rfl,by go_num,by omega,by omega,S,ZZ (O.o (by simp)),af⟩
   case measure=>simp[intOf];omega
  | false=>
   obtain⟨⟨d0,d1,d2⟩,E,ao,-⟩:=S.o.ent i (by omega)
   obtain⟨b0,f0⟩:=P.o.cell 0;obtain⟨b1,f1⟩:=P.o.cell 1;obtain⟨b2,f2⟩:=P.o.cell 2;have z0:=E (i*3);have z1:=E (i*3+1);have z2:=E (i*3+2);have au:(i:Int)<(l.length:Int):=by omega
   have aA:i<l.length:=by omega
   clear E;go_wp2;go_roundw
   case rel=>exact⟨i+1,j+1,L.set i ⟨m,d,n⟩,by go_num,by go_num,by omega,by omega,ZZ (S.o.put3 i (by omega) m d n _ _ _ (by omega) (by omega) (by omega)),ZZ (D.o (by simp)),ZZ (Zpz af.o f ae _ _ _ _ _ _)⟩
   case measure=>simp[intOf];omega
theorem RdE.one (w:World) (e:Ent) (c:ZlO e):RdE (w.alloc (.cells (Gw e) 85)) (.slice (some ⟨w.heap.size,0,none⟩) 1 1) [e]:=by
 have h:=Xp.ofRow (w:=w.alloc (.cells (Gw e) 85)) (B:=w.heap.size) (g:=w.heap.size) (cap:=1) (l:=[e]) (n:=1) rfl zL (zak w _) zL (by unfold maxLen;decide) rfl (fun j a=>by
  rw[zcw] at a
  match j,a with
  | 0,_=>rfl
  | 1,_=>rfl
  | 2,_=>rfl)
 exact h.rd (fun x b=>by rw[zaw.1 b];exact c)
theorem ZkF (l:List Ent) (i:Nat) (n:i<=l.length) (e:Ent) (f:Nat->Option Value) (m:∀ j,j<i*3->f j=(Qg l)[j]?) (c:∀ j,j<3->f (i*3+j)=(Qg [e])[j]?)
 (g:∀ j,j<(l.length-i)*3->f ((i+1)*3+j)=(Qg (l.drop i))[j]?) (j:Nat) (p:j<(l.length+1)*3):f j=(Qg (l.take i++(e::l.drop i)))[j]?:=by
 have d:l.take i++(e::l.drop i)=l.take i++([e]++l.drop i):=rfl;have b:(Qg (l.take i)).length=i*3:=by rw[Xk,length_take];congr 1;omega
 have k:(Qg [e]).length=3:=Xk [e];rw[d,ZaA,ZaA];by_cases a:j<i*3
 ·rw[zbg (by omega),m j a,Zce,zcc a]
 ·rw[zbs (by omega),b]
  by_cases q:j<i*3+3
  ·rw[zbg (by omega),<-c (j-i*3) (by omega)]
   congr 1
   omega
  ·rw[zbs (by omega),k,<-g (j-i*3-3) (by omega)]
   congr 1
   omega
theorem ZaZ (l:List Ent) (i:Nat) (a:i<=l.length) (e:Ent):(l.take i++(e::l.drop i)).length=l.length+1:=by simp;omega
def ZzY (w:World) (B:Nat) (L:List Ent) (x:Ending) (w':World):Prop:=∃ v',x=.returned v'∧Xp w' B v' L∧Below B w w'
theorem ZpA (v:Value) (l:List Ent) (B:Nat) (w:World) (c:Xp w B v l) (D:B<=w.heap.size) (F:l.length<=100000) (e:Ent) (y:ZlO e) (I:Int) (C:I=(l.length:Nat)) (N:Nat) (E:N=w.heap.size):
 Calls prog 88 #[v,.int .i64 I,.slice (some ⟨N,0,none⟩) 1 1] (w.alloc (.cells (Gw e) 85)) fun x w'=>ZzY w B (l.take l.length++(e::l.drop l.length)) x w':=by
 subst C E;have i:Hid (l.take l.length++(e::l.drop l.length)=l++[e]):=ZZ (by rw[take_length,ze9])
 rw[i.o];have p:=ZZ (RdE.one w e y);have j:Hid (∀ X,Below B w (w.alloc X)):=fun X=>(zac _ _).alloc D X
 have k:=ZZ (c.below ((zac w.heap.size w).alloc zL (.cells (Gw e) 85)) zL);have m:B<=(w.alloc (.cells (Gw e) 85)).heap.size:=by simp;omega
 rcases c.row with ⟨rfl,rfl⟩ | ⟨g,cap,cur,rfl,G,M,A,H,n,q,t⟩
 ·clear c i
  go_enter func88,ntmps88
  go_wp2_with(at_builtin;refine Zal _ rfl _ _ rfl B _ [] rfl k.o _ [e] rfl p.o (by simp) m ?_)
  intro z u b a;have d:=ZZ b;have f:=ZZ ((j.o _).trans a);clear b a;go_wp2;go_ret;exact⟨_,rfl,d.o,f.o⟩
 ·have J:(cap:Int)<=9223372036854775807:=by unfold maxLen at n;omega
  have L:(l.length:Int)<=(cap:Int):=by omega
  clear c i t A q n;by_cases K:cap=l.length
  all_goals
   go_enter func88,ntmps88
   go_wp2_with(at_builtin;refine Zal _ rfl _ _ rfl B _ l rfl k.o _ [e] rfl p.o (by simp;omega) m ?_)
   intro z u b a;have d:=ZZ b;have f:=ZZ ((j.o _).trans a);clear b a;go_wp2;go_ret;exact⟨_,rfl,d.o,f.o⟩
theorem ZAk (w:World) (g N a b:Nat) (l:N≠g) (j i d f o:Nat) (m:w.shape? N=some (85,a)) (n:w.shape? g=some (85,b)) (p:b≠0) (c:∀ k,w.frozen? ⟨N,k,none⟩=false):
 (callFunc 129 #[.slice (some ⟨N,0,none⟩) j i,.slice (some ⟨g,o,none⟩) d f]).run prog w=.ok (.value (.bool false)) w:=by
 rw[run_callFunc_extern func129 (by kernel_rfl) (by kernel_rfl) (by kernel_rfl) (e:=Extern.SlicesOverlaps.overlaps #[39,39] #[4]) (by kernel_rfl),
  Lib.run_overlaps_apart w 39 4 85 underlying39 3 Tryz.sizeOf85 ⟨N,0,none⟩ ⟨g,o,none⟩ j i d f l _ _ a b m n p (c 0) (c a)]
 rfl
theorem Zhm:(prog.info? 85).map (·.size)=some 3:=by
 obtain⟨c,b,d,a,e⟩:=zbx Zhl;rw[b];simp[a]
theorem ZnE (g cap:Nat) (l:List Ent) (B:Nat) (w:World) (X:Xp w B (.slice (some ⟨g,0,none⟩) l.length cap) l) (hB:B<=w.heap.size) (i:Nat) (hi:i<l.length) (ac:l.length+1<=cap) (e:Ent) (I:Int) (hI:I=(i:Nat)) (N:Nat) (O:N=w.heap.size):
 Calls prog 88 #[.slice (some ⟨g,0,none⟩) l.length cap,.int .i64 I,.slice (some ⟨N,0,none⟩) 1 1] (w.alloc (.cells (Gw e) 85)) fun x w'=>ZzY w B (l.take i++(e::l.drop i)) x w':=by
 subst hI;rcases X.row with ⟨d,-⟩ | ⟨g',aw,cur,d,A,aa,Y,hn,E,z,G⟩
 ·cases d
 injection d with d _ h3
 injection d with d
 injection d with d
 subst d h3;clear X;have p:(w.alloc (.cells (Gw e) 85)).heap[N]?=some (.cells (Gw e) 85 (0,0)):=by rw[O];exact zak w _
 have f:(w.alloc (.cells (Gw e) 85)).heap[g]?=some (.cells cur 85 (0,0)):=(zav _ _ _ aa).trans Y;have K:Hid (Below B w (w.alloc (.cells (Gw e) 85))):=(zac _ _).alloc hB _;generalize w.alloc (.cells (Gw e) 85)=W at *;have L:N≠g:=by omega
 have az:(cap:Int)<=9223372036854775807:=by unfold maxLen at E;omega
 have T:∀ (j:Nat),W.frozen? ⟨g,j,none⟩=false:=fun j=>zbc W g j _ _ f
 have ab:∀ y C t F o,(callFunc 129 #[.slice (some ⟨N,0,none⟩) y C,.slice (some ⟨g,o,none⟩) t F]).run prog W=.ok (.value (.bool false)) W:=fun y C t F o=>
  ZAk W g N 3 (cap*3) L y C t F o (by simp[World.shape?,p,Gw]) (by simp[World.shape?,f,z]) (by omega) (fun k=>zbc W N k _ _ p)
 have H:(Qg (l.drop i)).length=(l.length-i)*3:=by rw[Xk,length_drop]
 have Q:∀ j,j<(l.length+1)*3->(W.cell? ⟨g,j,none⟩).isSome=true:=fun j a=>by
  rw[zas W g j _ _ _ f,zd2 (by omega)]
  rfl
 have S:∀ W',(∀ x,W'.cell? x=W.cell? x)->(∀ x,W'.frozen? x=W.frozen? x)->∀ ty c sc,(Builtin.copy_ #[39,39] ty #[.slice (some ⟨g,(i+1)*3,none⟩) (l.length-i) c,.slice (some ⟨g,i*3,none⟩) (l.length+1-i) sc]).run prog W'=.ok (goInt (Nat.min (l.length+1-i) (l.length-i))) (W'.setCells g ((i+1)*3) (Qg (l.drop i))):=fun W' n D ty c sc=>
  ZaP W' _ _ ty 85 3 g ((i+1)*3) (l.length-i) c ⟨g,i*3,none⟩ (l.length+1-i) sc (Qg (l.drop i)) underlying39 Zhm (by rw[H];simp only [zg4];split <;> omega)
   (fun j v a=>by
    have U:j<(l.length-i)*3:=by rw[<-H];exact(zbr.1 a).1
    rw[zbn,n,zas W g _ _ _ _ f,G _ (by omega)]
    rw[Zcf,zex] at a
    exact a)
   (fun j a=>by rw[n];exact Q _ (by omega)) (fun j a=>by rw[D];exact T _) (Zac _)
 obtain⟨b,m⟩:=zg7 (W.drew.setCells g ((i+1)*3) (Qg (l.drop i)));have q:b.heap[g]?=some (.cells (Zfu cur ((i+1)*3) (Qg (l.drop i))) 85 (0,0)):=by rw[m];exact X3 g _ _ _ W.drew cur f
 have M:b.heap[N]?=some (.cells (Gw e) 85 (0,0)):=by rw[m,Zas g _ _ _ N L];exact p
 have u:(Qg [e]).length=3:=Xk [e]
 have V:∀ W',(∀ x,W'.cell? x=b.cell? x)->(∀ x,W'.frozen? x=b.frozen? x)->∀ ty c,(Builtin.copy_ #[39,39] ty #[.slice (some ⟨g,i*3,none⟩) (l.length+1-i) c,.slice (some ⟨N,0,none⟩) 1 1]).run prog W'=.ok (goInt (Nat.min 1 (l.length+1-i))) (W'.setCells g (i*3) (Qg [e])):=fun W' n D ty c=>
  ZaP W' _ _ ty 85 3 g (i*3) (l.length+1-i) c ⟨N,0,none⟩ 1 1 (Qg [e]) underlying39 Zhm (by rw[u];simp only [zg4];split <;> omega)
   (fun j v a=>by
    rw[zbn,n,za9,zas b N _ _ _ _ M]
    have:(Qg [e])[j]?=(Gw e)[j]?:=by
     have U:j<3:=by rw[<-u];exact(zbr.1 a).1
     have:=Z0 [e] 0 j (by simp) U
     rwa [zc7,za9] at this
    rw[<-this]
    exact a)
   (fun j a=>by
    rw[n,zas b g _ _ _ _ q,zd2 (by rw[Xr];omega)]
    rfl) (fun j a=>by rw[D];exact zbc b g _ _ _ q) (Zac _)
 have P:Hid (ZzY w B (l.take i++(e::l.drop i)) (.returned (.slice (some ⟨g,0,none⟩) (l.length+1) cap)) (b.setCells g (i*3) (Qg [e]))):=ZZ (by
  refine⟨_,rfl,Xp.ofRow (ZaZ l i (by omega) e).symm A (X3 g _ _ _ b _ q) (by rw[ZaZ l i (by omega) e];exact ac) E (by rw[Xr,Xr];exact z) (fun j a=>?_),?_⟩
  ·rw[ZaZ l i (by omega) e] at a
   refine ZkF l i (by omega) e (fun j=>(Zfu (Zfu cur ((i+1)*3) (Qg (l.drop i))) (i*3) (Qg [e]))[j]?) (fun k R=>?_) (fun k R=>?_) (fun k R=>?_) j a
   ·show(Zfu (Zfu cur ((i+1)*3) (Qg (l.drop i))) (i*3) (Qg [e]))[k]?=_
    rw[Ys _ _ _ _ (by rw[Xr];omega),zaa (by omega),Ys _ _ _ _ (by omega),zaa (by omega)]
    exact G k (by omega)
   ·show(Zfu (Zfu cur ((i+1)*3) (Qg (l.drop i))) (i*3) (Qg [e]))[i*3+k]?=_
    rw[Ys _ _ _ _ (by rw[Xr];omega),zab (by omega),zcf]
   ·show(Zfu (Zfu cur ((i+1)*3) (Qg (l.drop i))) (i*3) (Qg [e]))[(i+1)*3+k]?=_
    rw[Ys _ _ _ _ (by rw[Xr];omega),zaa (by omega),Ys _ _ _ _ (by omega),zab (by omega),zcf]
  ·rw[m]
   exact G8 A _ _ _ (G8 A _ _ _ (Zio K.o)))
 have ad:=fun ty c sc=>S W.drew (fun _=>rfl) (fun _=>rfl) ty c sc
 have J:=fun ty c=>V b (fun _=>rfl) (fun _=>rfl) ty c
 clear S V;rw[m] at P J;clear m q M G z Y f p Q T E K H u O;have av:prog.follows .mixedOrders=true:=by kernel_rfl
 have Z:¬ ((i:Int)=(l.length:Int)):=by omega
 have ai:((i:Int) == (l.length:Int))=false:=zah.2 Z;have ag:IntKind.i64.wrap ((i:Int)+1)=(i:Int)+1:=by rw[zbo];omega
 have ar:IntKind.i64.wrap ((l.length:Int)+1)=(l.length:Int)+1:=by rw[zbo];omega
 have aj:(0:Int)<=(i:Int)+1:=by omega
 have al:i<=l.length:=by omega
 have ay:(i:Int)<=(l.length:Int):=by omega
 have ae:((i:Int)+1).toNat=i+1:=by omega
 have ak:((l.length:Int)+1).toNat=l.length+1:=by omega
 have au:¬ (cap=i+1):=by omega
 have am:(i:Int)<=(l.length:Int)+1:=by omega
 have aq:¬ (cap=i):=by omega
 have an:¬ ((cap:Int)<(l.length:Int)+1):=by omega
 have ao:(l.length:Int)+1<=(cap:Int):=by omega
 have ap:(i:Int)+1<=(l.length:Int)+1:=by omega
 generalize Qg (l.drop i)=ax at *;generalize Qg [e]=af at *;generalize l.take i++(e::l.drop i)=LL at *
 go_enter func88,ntmps88
 go_wp2_with(simp only [ab])
 go_region_law_o (refine step_copy_runI rfl _ _ 39 39 rfl _ _ (by simp[Act.eval,Act.put]) (by simp[Act.eval,Act.put]) (ad _ _ _) ?_)
 go_wp2_with(at_builtin;refine wpList_copy_runI _ rfl _ _ 39 39 rfl _ _ rfl rfl (J _ _) ?_)
 go_wp2;go_ret;exact P.o
end Go.Proofs.YtnahjngbneicaaaGreatDoor
