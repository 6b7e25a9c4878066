import Derived.Test.YtnahjngbneicaaaGreatDoorPack3
import Derived.Sort.OwnSortedInts
import Derived.Deep.RegionHeld
import Derived.Test.YtnahjngbneicaaaGreatDoorPack1
namespace Go.Proofs.YtnahjngbneicaaaGreatDoor
open _root_.Go.Proofs.Tryz
open List (getElem_cons_succ getElem_cons_zero getElem_toArray length_cons length_take setIfInBounds_toArray set_cons_succ set_cons_zero)
set_option maxHeartbeats 4000000
set_option maxRecDepth 100000
open Go.RowKit Go.Maps Go.Shelf
theorem ZwG {B:Nat} {v:Value} {l:List Int} (w:World) (h:ZaB w B v l) (u:l.length<=10000000):
 Calls prog 67 #[v] w fun e w'=>e=.returned (.tuple #[])∧ZaB w' B v (l.mergeSort fun x y=>decide (x<=y))∧w.grownBy w' v.ownBlock:=by
 have c:=h;have d:w.grownBy w v.ownBlock:=⟨rfl,rfl,rfl,Nat.le_refl _,fun _ _ _=>rfl⟩
 rcases h.2 with ⟨rfl,k⟩ | ⟨g,cap,cur,rfl,j,b,t,p,q,f⟩
 ·have e:l=[]:=List.eq_nil_of_length_eq_zero k
  subst e;have a:=Any.slices_Sort_int_none ZCl none 0 w;refine a.mono ?_;rintro e w' ⟨rfl,rfl⟩;exact⟨rfl,by simpa using c,d⟩
 ·by_cases e:l=[]
  ·subst e
   have a:=Any.slices_Sort_int_none ZCl (some ⟨g,0,none⟩) cap w;refine a.mono ?_;rintro e w' ⟨rfl,rfl⟩;exact⟨rfl,by simpa using c,d⟩
  ·have m:Sort.Holds (Value.int .i64) w g 0 l.toArray:=holds_of_blockI b (by rw[Nat.mul_one] at f;exact f)
   have a:=Any.slices_Sort_int ZCl g 0 cap l w m (Array.getElem?_eq_some_iff.1 b).1 (by omega)
   refine a.mono ?_;rintro e w' ⟨rfl,n,os,rfl⟩;refine⟨rfl,?_,grownBy_sortedI _⟩;have i:=ownsRow_sortedI (n:=n) (os:=os) (ss:=l) (ts:=l.mergeSort fun x y=>decide (x<=y)) (by simp) j b t p q
   unfold ZaB;rw[show(l.mergeSort fun x y=>decide (x<=y)).length=l.length by simp]
   exact i
structure Met (f:Int->Option Nat) (left:Lit->Bool) (l:List Int):Prop where
 mem:∀ p,I64 p->(p ∈ l↔(f p).isSome=true∧left (.int .i64 p)=false)
 nd:l.Nodup
 i:∀ p ∈ l,I64 p
theorem Met.step {f:Int->Option Nat} {left:Lit->Bool} {l:List Int} (h:Met f left l) {x:Int} (d:I64 x) (m:left (.int .i64 x)=true) (g:(f x).isSome=true):Met f (fun z=>left z && !z.sameKey (.int .i64 x)) (l++[x]):=by
 refine⟨fun p hp=>?_,?_,fun p hp=>?_⟩
 ·rw[List.mem_append,h.mem p hp,List.mem_singleton]
  by_cases e:p=x
  ·subst e
   have c:(Lit.int .i64 p).sameKey (.int .i64 p)=true:=WideAt.sameKey_self (by first | exact trivial | simp[WideAt.IsKeyLit])
   simp[c,g]
  ·have c:(Lit.int .i64 p).sameKey (.int .i64 x)=false:=sameKey_ne (by intro h;injection h with _ h;exact e h)
   simp[c,e]
 ·rw[List.nodup_append]
  refine⟨h.nd,by simp,fun a k b j=>?_⟩
  rw[List.mem_singleton.1 j];rintro rfl;have:=((h.mem a d).1 k).2;rw[m] at this
  cases this
 ·rcases List.mem_append.1 hp with hp | hp
  ·exact h.i p hp
  ·rw[List.mem_singleton.1 hp];exact d
theorem Met.done {f:Int->Option Nat} {left:Lit->Bool} {l:List Int} (h:Met f left l) (A:∀ k,left k=false) {d:Dir} (j:ZbM d) (w:∀ p ∈ d,I64 p.1) (m:∀ p,I64 p->(f p).isSome=(look d p).isSome):(l.mergeSort fun x y=>decide (x<=y))=d.map Prod.fst:=by
 have v:(l.mergeSort fun x y=>decide (x<=y)).Pairwise (fun a b=>decide (a<=b)=true):=List.pairwise_mergeSort (fun a b c e B=>by simp only [decide_eq_true_eq] at *;omega) (fun a b=>by simp only [Bool.or_eq_true,decide_eq_true_eq];omega) l
 have t:=List.mergeSort_perm l fun x y=>decide (x<=y)
 have u:(l.mergeSort fun x y=>decide (x<=y)).Nodup:=t.nodup_iff.2 h.nd
 refine ZiZ ?_ (ZiY j) fun x=>?_
 ·refine(v.and u).imp fun {a b} hab=>?_
  have e:=of_decide_eq_true hab.1;have B:=hab.2;omega
 ·rw[t.mem_iff,List.mem_map]
  constructor
  ·intro g
   have e:=((h.mem x (h.i x g)).1 g).1;rw[m x (h.i x g)] at e;obtain⟨y,z⟩:=Option.isSome_iff_exists.1 e;exact⟨(x,y),(Zcz j x y).1 z,rfl⟩
  ·rintro⟨p,q,rfl⟩
   have n:=w p q;have e:look d p.1=some p.2:=(Zcz j p.1 p.2).2 q;exact(h.mem p.1 n).2 ⟨by rw[m p.1 n,e];rfl,A _⟩
theorem ZkL {w:World} {b n:Nat} {D:DataW Unit} (h:w.ownsMap prog 3 ZdB b n D):Maps.size D<=n:=by
 obtain⟨e,c,d,F,a,rfl⟩:=h;rw[size_eq,length_sorted];simpa using a
theorem Zru {w w':World} {b r n a:Nat} {D:DataW Unit} {left:Lit->Bool} (h:w.ranges prog 3 ZdB b r n D left a) (j:w'.heap[b]?=w.heap[b]?) (l:w'.heap[r]?=w.heap[r]?):w'.ranges prog 3 ZdB b r n D left a:=by
 obtain⟨i,m,p,e,g,d,F,f,c,k,rest⟩:=h;exact⟨i,m,p,e,g,j.trans d,F,f,c,l.trans k,rest⟩
theorem ZhJ {F:Nat->Prop} {p:Nat} {L:Lay} {d:Dk} {u:Int} {N:Nat} (w:World) (h:ZaM F w p L d u N) (G:OkD d) (hN:N<=1000000):
 Calls prog 28 #[ptr p] w fun e w'=>∃ v,e=.returned v∧ZaB w' w.heap.size v ((Zbk d).map Prod.fst)∧Below w.heap.size w w':=by
 obtain⟨⟨-,-,c2,-,-,-⟩,-⟩:=h.cells;obtain⟨D,B,ad⟩:=h.rest.now;have am:=ZZ B;have aa:Hid (Maps.size D<=N):=ZZ (ZkL B);have af:Hid (L.now<w.heap.size):=ZZ h.rest.now.lt;have J:Hid (∀ q,I64 q->Maps.has D (.int .i64 q)=(look (Zbk d) q).isSome):=ZZ (fun q z=>by rw[ad.has z];cases look (Zbk d) q <;> rfl)
 have al:Hid (∀ left l,Met (look (Zbk d)) left l->(∀ k,left k=false)->(l.mergeSort fun x y=>decide (x<=y))=(Zbk d).map Prod.fst):=ZZ (fun left l hm hl=>hm.done hl G.dir.rise (fun p hp=>Zfr (G.dir.may p hp).1) (fun _ _=>rfl))
 clear h B ad G
 go_enter func28,ntmps28
 go_wp2_with(first
  | (at_range;refine wpList_range_own _ rfl _ 65 rfl 3 115 ZeL underlying65 ZdB L.now N D rfl am.o ?_;intro w0 an j aw)
  | go_in)
 go_frame
 go_loopw[3] (fun v f=>∃ (left:Lit->Bool) (A:Nat) (l:List Int),Hid (f.ranges prog 3 ZdB L.now w.heap.size N D left A)∧A+l.length<=Maps.size D∧Hid (ZaB f (w.heap.size+1) v l)∧Hid (Met (look (Zbk d)) left l)∧Hid (Below w.heap.size w f∧w.heap.size+1<=f.heap.size))
  (fun _ f=>f.rangeLeft L.now w.heap.size)
 case atStart=>
  refine⟨_,_,[],ZZ an,by simp,ZZ (ZaB.nil _ _),ZZ ⟨fun q z=>?_,List.nodup_nil,by simp⟩,ZZ ⟨⟨j.os,j.tape,j.output,j.size,fun k a=>j.block k a (by simp)⟩,by omega⟩⟩
  rw[J.o q z]
  cases look (Zbk d) q <;> simp
 case round=>
  obtain⟨left,A,l,R,aj,t,S,m⟩:=hrel
  go_wp2_with(first
   | (at_next;refine wpList_next_ranges _ rfl _ rfl 3 ZeL ZdB (Value.int .i64) (fun b:Nat=>ptr b) (fun key kl a=>by obtain⟨x,rfl,_⟩:=Maps.keyOf_int_inv underlying3 a;exact⟨x,rfl⟩) (fun v y C=>by obtain⟨c,rfl,_⟩:=ZgY C;exact⟨c,rfl⟩) L.now w.heap.size N _ _ _ rfl R.o ?_ ?_)
   | go_in)
  ·intro ao Z
   have ah:=ZZ Z;have aq:l.length<=10000000:=by have:=aa.o;omega
   have HS:=ZZ (ZwG _ t.o aq);clear ao Z
   go_wp2_with fail
   refine HS.o.mono ?_;rintro e W1 ⟨rfl,I,g⟩;have au:Hid (Below w.heap.size w W1):=ZZ (m.o.1.grown g m.o.1.size (fun k a=>by have:=(World.ownsRow.lt t.o k a).1;omega))
   have H:=ZZ I;clear I g;go_wp2;go_ret;refine⟨_,rfl,?_,au.o⟩;rw[<-al.o _ _ S.o ah.o];exact H.o.mono (by omega)
  ·intro x c kl yd yp n ab W Q C T K Y g ag av
   obtain⟨x',ex,rfl,V⟩:=Maps.keyOf_int_inv underlying3 W
   cases ex
   have M:=ZZ (ZbF V);have HF:Hid ((look (Zbk d) x).isSome=true):=ZZ (by rw[<-J.o x M.o];exact has_true_of_atKey T)
   have ar:=ZZ (S.o.step M.o Q HF.o);have ap:=ZZ K;have H:Hid (ZaB n (w.heap.size+1) _ l):=ZZ (World.ownsRow.kept t.o g (.inr (fun e=>by have:=(World.ownsRow.lt t.o _ e).1;omega)))
   have E:Hid (Below w.heap.size w n∧w.heap.size+1<=n.heap.size):=ZZ ⟨m.o.1.grown g m.o.1.size (fun k a=>by have:=Option.some.inj a;omega),by have:=m.o.2;omega⟩
   have ak:=ZZ Y
   have ac:l.length<=1000000∧ab+(l++[x]).length<=Maps.size D:=by
    have:=aa.o;simp only [List.length_append,List.length_singleton];omega
   have P:=ZZ ac;clear W Q C T K Y g ag V ac aj
   go_wp2_with(at_builtin;refine(fun(h:True->_)=>h trivial) ?_)
   intro _;refine Zio n rfl _ _ rfl (w.heap.size+1) u3 l rfl H.o x rfl P.o.1 E.o.2 ?_;intro v2 X O i;have ae:=ZZ O;have U:=ZZ (Zru ap.o (i.block _ (by have:=af.o;omega)) (i.block _ (by omega)))
   have ai:Hid (Below w.heap.size w X∧w.heap.size+1<=X.heap.size):=ZZ ⟨E.o.1.trans (i.mono (by omega)),by have:=E.o.2;have:=i.size;omega⟩
   clear O i;go_wp2;go_roundw
   case rel=>exact⟨_,ab,l++[x],U,P.o.2,ae,ar,ai⟩
   case measure=>rw[U.o.left_eq,R.o.left_eq];exact ak.o
theorem ZaM.synced {F:Nat->Prop} {w b:World} {p:Nat} {L:Lay} {d:Dk} {u:Int} {N:Nat} (h:ZaM F w p L d u N) (t:Below w.heap.size w b) (y:b.heap.size=w.heap.size+1) (m:Zct b w.heap.size N (fun n=>(look (Zbk d) n).map L.ps)):
 ZaM (Gr F w b) ((b.setCell ⟨p,3,none⟩ (.map (some w.heap.size))).setCell ⟨p,4,none⟩ (.slice none 0 0)) p { L with kept:=w.heap.size,wv:=.slice none 0 0,cs:=[] } { d with kept:=Zbk d,waits:=[] } u N:=by
 have e:=h.more t;have l:=e.rest
 have j:∀ k,k≠p->((b.setCell ⟨p,3,none⟩ (.map (some w.heap.size))).setCell ⟨p,4,none⟩ (.slice none 0 0)).heap[k]?=b.heap[k]?:=fun k f=>by
  rw[Below.heap_setCell _ _ _ _ f,Below.heap_setCell _ _ _ _ f]
 have a:=l.keep e.head (fun k _ f=>j k f)
 refine⟨(e.head.set 3 _).set 4 _,⟨a.now,m.keep (j _ (by have:=h.lt p h.fh;show w.heap.size≠p;omega)),World.ownsRow_nil _ _ _ _,rfl,(fun i c v q=>by simp at q),a.file,a.psn,a.vsn,?_,a.fn,.inr ⟨Nat.le_refl _,by show w.heap.size<_;omega⟩,(fun g x=>by cases x),a.fp,a.fv⟩,e.fh,fun k j=>?_⟩
 ·have:=h.rest.now.lt
  show L.now≠w.heap.size;omega
 ·have:=e.lt k j
  simpa using this
theorem Zrv {F:Nat->Prop} {p:Nat} {d:Dk} {N T:Nat} (w:World) (h:Dsk F w p d N T):
 Calls prog 107 #[ptr p] w fun e w'=>Zjk F w p (ZaS d).1 (ZaS d).2 (N+2) T e w':=by
 have J:=ZZ h;obtain⟨L,h,A,n,x,C⟩:=h;have H:=ZZ h;have y:=ZZ A;have g:=ZZ n;have f:=ZZ (And.intro x C);have c:=ZZ (Zpq w h);obtain⟨⟨-,-,W,K,Q,-⟩,-,O,I,-⟩:=h.cells;have R:=ZZ (Zuk h.rest.now);clear A n x C;unfold ZaS;by_cases a:d.power=0
 ·rw[if_pos a]
  rw[a] at c;clear a h
  go_enter func107,ntmps107
  go_wp2_with fail
  refine c.o.mono ?_;rintro e w' ⟨rfl,rfl⟩;go_wp2;go_ret;exact Zjk.same J.o (by omega) zL
 rw[if_neg a];have B:(d.power != 0)=true:=by simpa using a
 rw[B] at c;clear a B h
 go_enter func107,ntmps107
 go_wp2_with fail
 refine c.o.mono ?_;rintro e w' ⟨rfl,rfl⟩
 go_wp2_with fail
 refine R.o.mono ?_;rintro e q ⟨rfl,v,l,b⟩;have z:=ZZ (H.o.synced b l v);have E:=ZZ (H.o.more b);have aa:=ZZ b;obtain⟨⟨-,-,-,V,D,-⟩,-,M,U,-⟩:=E.o.cells;obtain⟨va,vn,vc,t⟩:=ZhH E.o.rest.row;rw[t] at D;have u:Hid (Zap F w' ((q.setCell ⟨p,3,none⟩ (.map (some w'.heap.size))).setCell ⟨p,4,none⟩ (.slice none 0 0))):=ZZ (((Zap.ofBelow b).setCell 3 (fun _=>H.o.fh) _).setCell 4 (fun _=>H.o.fh) _)
 obtain⟨i,j⟩:∃ i,i=(q.setCell ⟨p,3,none⟩ (.map (some w'.heap.size))).setCell ⟨p,4,none⟩ (.slice none 0 0):=⟨_,rfl⟩;rw[<-j] at z u;have m:=ZZ j;have Y:=ZZ l;clear W K Q O I v l b t j
 go_upto_region 5 with fail
 rw[<-m.o];clear m V D M U
 go_wp2_with fail
 refine(Zfq i z.o f.o.2).mono ?_;rintro e Z ⟨rfl,P,G⟩;go_wp2;go_ret;refine⟨rfl,_,⟨_,P.mono (by omega),ZjN (fs:=d.files) y.o.dir y.o.keep,⟨by have:=g.o.files;show d.files.length<=_;omega,?_,g.o.bytes⟩,f.o.1,Zgr f.o.2⟩,u.o.trans G (fun k hk hf=>?_),fun k hk=>?_⟩
 ·have X:=g.o.names
  have S:=Zey d d.waits.length;rw[Zgo] at S;show(Zbk d).length+0<=_;omega
 ·rcases hf with hf | hf
  ·exact hf
  ·omega
 ·rcases hk with hk | hk
  ·exact .inl hk
  ·exact .inr hk.1
open Go.RowKit Go.Maps
open Go.ChangeMaps Go.MapKept
open Go.WideElems (Fit rd rg pl rd_val elemAt)
theorem ZpB:∀ {a b:List Int},a.Nodup->(∀ x ∈ a,x ∈ b)->a.length<=b.length
 | [],_,_,_=>Nat.zero_le _
 | x::a,b,c,f=>by
  rw[List.nodup_cons] at c;have e:=f x (List.mem_cons_self ..);have g:=ZpB (a:=a) (b:=b.erase x) c.2 fun y d=>(List.mem_erase_of_ne (by rintro rfl;exact c.1 d)).2 (f y (List.mem_cons_of_mem _ d))
  have i:=List.length_erase_of_mem e;have h:=List.length_pos_of_mem e;rw[length_cons];omega
def toI:Value->Int
 | .int _ x=>x
 | _=>0
theorem Zct.tight {w:World} {b n:Nat} {f:Int->Option Nat} (h:Zct w b n f) {l:List Int} (L:∀ p,I64 p->(f p).isSome=true->p ∈ l):Zct w b l.length f:=by
 obtain⟨D,⟨g,v,t,F,O,rfl⟩,u⟩:=h
 have m:∀ e ∈ g.toList,∃ x,e.key=.int .i64 x∧I64 x:=fun e j=>by
  obtain⟨y,i⟩:=F.reads e j;obtain⟨x,d,_,B⟩:=Maps.keyOf_int_inv underlying3 (WideElems.rd_key i);exact⟨x,d,ZbF B⟩
 refine⟨_,⟨g,v,t,F,?_,rfl⟩,u⟩
 have E:(g.toList.map fun e=>toI e.key).Nodup:=by
  have M:=((stamped_iff g v).1 F.stamped).2.2;rw[List.Nodup,List.pairwise_map];refine List.Pairwise.imp_of_mem ?_ M;intro a c I K H e;obtain⟨x,d,_⟩:=m a I;obtain⟨y,i,_⟩:=m c K;rw[d,i] at e;have:x=y:=e;exact H (by rw[d,i,this])
 have J:∀ x ∈ (g.toList.map fun e=>toI e.key),x ∈ l:=fun x d=>by
  obtain⟨e,j,rfl⟩:=List.mem_map.1 d;obtain⟨x,d,k⟩:=m e j;rw[d];refine L x k ?_;rcases Maps.fit_look false ZeL underlying65 (Zwz w) t F (keyOf_int_mk underlying3 (Zza k)) with ⟨_,G,_⟩ | ⟨P,y,_,_,_,A,C,_⟩
  ·exact absurd d (G e j)
  ·cases ef:f x with
   | some _=>rfl
   | none=>
    obtain⟨N,_,rfl⟩:=ZgY A;refine(ZwB (x:=N) fun z=>?_).elim
    have q:=C z;rw[u x k z,ef] at q;exact q.symm
 have:=ZpB E J;simpa using this
open Go.RowKit
theorem ZwH {w:World} {n s:Nat} {t:TypeId} {v:Value} {xs:List Value} (h:w.ownsRow 0 t s v n xs):∃ ao cap,v=.slice ao n cap∧n<=cap∧((ao=none∧cap=0)∨∃ g,ao=some ⟨g,0,none⟩):=by
 rcases h.2 with ⟨a,b⟩ | ⟨g,cap,cur,a,_,_,c,_⟩
 ·exact⟨none,0,by rw[a,b],by omega,.inl ⟨rfl,rfl⟩⟩
 ·exact⟨some ⟨g,0,none⟩,cap,a,c,.inr ⟨g,rfl⟩⟩
theorem _root_.Go.World.grownBy.trans2 {a b c:World} {r:Nat} (h:a.grownBy b (some r)) (k:b.grownBy c (some r)):a.grownBy c (some r):=ZkG h k
theorem ZaM.lost {F:Nat->Prop} {w w':World} {p:Nat} {L:Lay} {d:Dk} {u:Int} {N:Nat} {l:Dir} (h:ZaM F w p L d u N) (C:w.heap.size<=w'.heap.size)
 (A:∀ k,F k->k≠p->k≠L.now->k≠L.kept->w'.heap[k]?=w.heap[k]?) (y:Bk 69 w' p (ZiC { L with wv:=.slice none 0 0,cs:=[] } d u))
 (q:Zct w' L.now N (fun n=>(look l n).map L.ps)) (x:Zct w' L.kept N (fun n=>(look l n).map L.ps)):
 ZaM F w' p { L with wv:=.slice none 0 0,cs:=[] } { d with kept:=l,waits:=[] } u N:=by
 have a:=h.rest;have e:∀ {t:TypeId} {k:Nat} {cs:Array Value},Bk t w k cs->F k->t≠69->w'.heap[k]?=w.heap[k]?:=fun e j z=>A _ j (e.ne h.head z) (e.neMap a.now) (e.neMap a.kept)
 refine⟨y,⟨q,x,World.ownsRow_nil _ _ _ _,rfl,(fun i c v b=>by simp at b),fun i b=>?_,a.psn,a.vsn,a.nk,a.fn,a.fk,(fun g f=>by cases f),a.fp,a.fv⟩,h.fh,fun k j=>by have:=h.lt k j;omega⟩
 refine(a.file i b).keep (e (a.file i b).box (a.fp i b) (by decide)) fun g f=>?_
 obtain⟨B,m⟩:=Zeh (a.file i b).own f;exact e m (a.fv i b g f) (by decide)
theorem ZkM {F:Nat->Prop} {p:Nat} {L:Lay} {d:Dk} {u:Int} {N T:Nat} (names:Int) (w:World) (h:ZaM F w p L d u N) (am:OkD d) (ak:Bnd d N T) (hN:N<=1000000):
 Calls prog 31 #[ptr p,.int .i64 names] w fun e w'=>e=.returned (.tuple #[])∧ZaM F w' p { L with wv:=.slice none 0 0,cs:=[] } { d with kept:=ZeF d (Zcv names d.waits.length),waits:=[] } u N∧Zap F w w':=by
 have H:=ZZ h;have ax:=ZZ am;have aO:=ZZ ak;have hW:d.waits.length<=N:=by have:=ak.names;omega
 obtain⟨K,hK⟩:∃ K,K=Zcv names d.waits.length:=⟨_,rfl⟩;have aY:K<=d.waits.length:=by rw[hK];exact Zhq _ _
 rw[<-hK];have aH:Hid (∀ q,Calls prog 72 #[.int .i64 names,.int .i64 (d.waits.length:Int)] (w.drewN q) fun e w'=>e=.returned (.int .i64 (K:Int))∧w'=w.drewN q):=ZZ (fun q=>by rw[hK];exact Zps names d.waits.length (by omega) (w.drewN q))
 obtain⟨⟨-,-,-,c3,c4,-⟩,-,-,f4,-⟩:=h.cells;obtain⟨ao,cap,Y,aW,af⟩:=ZwH h.rest.row;rw[h.rest.many] at Y aW;rw[Y] at c4;have a0:=ZZ Y
 have aF:Hid (∀ k,k<K->∃ g c y,ao=some ⟨g,0,none⟩∧d.waits[k]?=some c∧ChV F w L.ps c y∧w.cell? ⟨g,k,none⟩=some y∧ZvY d.files.length c∧ZeF d (k+1)=chD (ZeF d k) c∧g≠L.kept):=ZZ (fun k hk=>by
  have P:k<d.waits.length:=by omega
  have au:k<L.cs.length:=by rw[h.rest.many];exact P
  rcases af with ⟨_,aZ⟩ | ⟨g,rfl⟩
  ·omega
  ·have aD:L.wv.ownBlock=some g:=by rw[Y];rfl
   refine⟨g,d.waits[k],L.cs[k],rfl,List.getElem?_eq_getElem P,h.rest.wait k _ _ (List.getElem?_eq_getElem P) (List.getElem?_eq_getElem au),?_,am.chs _ (List.getElem_mem P),Zwc d P,?_⟩
   ·have:=World.ownsRow.cells h.rest.row aD k _ (List.getElem?_eq_getElem au)
    rw[Addr.add_lit,Nat.zero_add] at this;exact this
   ·obtain⟨a1,aP⟩:=Zeh h.rest.row aD
    exact aP.neMap h.rest.kept)
 clear am ak Y af hK h
 go_enter func31,ntmps31
 go_wp2;refine wp_region_quiet_lit (by kernel_rfl) (by kernel_rfl) ?_
 repeat (go_big_quiet_step ((go_at_call 72;exact Calls.quiet_of_same (aH.o _))))
 refine wpQuiet_nil ?_;rintro _ ⟨E,rfl⟩;have a:Hid (ZaM F (w.drewN E) p L d u N):=ZZ (H.o.drewN E)
 have al:Hid (∀ k,k<K->∃ g c y,ao=some ⟨g,0,none⟩∧d.waits[k]?=some c∧ChV F (w.drewN E) L.ps c y∧(w.drewN E).cell? ⟨g,k,none⟩=some y∧ZvY d.files.length c∧ZeF d (k+1)=chD (ZeF d k) c∧g≠L.kept):=ZZ (fun k hk=>by
  obtain⟨g,c,y,t,v,I,h4,h5,h6⟩:=aF.o k hk
  exact⟨g,c,y,t,v,I.keep (fun _ i=>i) (fun _ _=>rfl) (fun _ _ _ _=>rfl),h4,h5,h6⟩)
 have aG:Hid (Zap F w (w.drewN E)):=ZZ ((Zap.refl _ _).drewN E);obtain⟨W,aq⟩:∃ W,W=w.drewN E:=⟨_,rfl⟩;rw[<-aq] at a al aG ⊢;clear aq aH aF c3 c4 f4 H;go_wp2
 go_loopw[19] (fun vi x=>∃ k:Nat,vi=.int .i64 (k:Int)∧k<=K∧Hid (Zct x L.kept (N+k) (fun n=>(look (ZeF d k) n).map L.ps))∧Hid (W.grownBy x (some L.kept))) (fun vi _=>K-(intOf vi).toNat)
 case atStart=>exact⟨0,rfl,Nat.zero_le _,ZZ (by rw[ZoS];exact a.o.rest.kept),ZZ ⟨rfl,rfl,rfl,Nat.le_refl _,fun _ _ _=>rfl⟩⟩
 case round=>
  obtain⟨k,rfl,aX,Q,A⟩:=hrel;have ae:=ZZ (a.o.head.keep (A.o.block p a.o.head.lt (fun e=>(a.o.head.neMap a.o.rest.kept) (Option.some.inj e))))
  by_cases aS:k<K
  ·obtain⟨g,c,y,af,hc,S,M,U,aE,aB⟩:=al.o k aS
   have ah:Hid (∀ n',look (ZeF d (k+1)) n'=chF (look (ZeF d k)) c n'):=ZZ (fun n'=>by rw[aE];exact Zgn (ax.o.dirs k).rise c (Zpx U) n')
   have S:ChV F x L.ps c y:=S.keep (fun _ i=>i) (fun _ _=>rfl) (fun j cs i hb=>A.o.block j (a.o.lt j i) (fun e=>by
    rcases hb with hb | hb <;> exact(hb.neMap a.o.rest.kept) (Option.some.inj e)))
   have M:x.cell? ⟨g,k,none⟩=some y:=(A.o.cell M (fun e=>aB (Option.some.inj e)))
   obtain⟨d3,-⟩:=ae.o.cell 3 rfl;subst af;clear aE aB hc
   cases c with
   | give n f=>
    obtain⟨b1,b2,B,t,v,-,-⟩:=S;have V:=ZZ (Zpu (f:=f) U.1 x t v Q.o (by omega))
    rw[B] at M;clear B t v
    go_wp2_with fail
    refine V.o.mono ?_;rintro e R ⟨rfl,C,D⟩;have Z:Hid (Zct R L.kept (N+(k+1)) (fun n=>(look (ZeF d (k+1)) n).map L.ps)):=ZZ (C.fun fun n' _=>by rw[ah.o])
    have aa:=ZZ (A.o.trans2 D);clear C D;go_wp2;go_roundw
    case rel=>exact⟨k+1,by go_num,by omega,Z,aa⟩
    case measure=>simp[intOf];omega
   | move n m f=>
    obtain⟨b1,b2,b3,B,t,v,I,-,-,-⟩:=S;have V:=ZZ (Zpv (f:=f) U.1 U.2.1 x t v I Q.o (by omega))
    rw[B] at M;clear B t v I
    go_wp2_with fail
    refine V.o.mono ?_;rintro e R ⟨rfl,C,D⟩;have Z:Hid (Zct R L.kept (N+(k+1)) (fun n=>(look (ZeF d (k+1)) n).map L.ps)):=ZZ (C.fun fun n' _=>by rw[ah.o])
    have aa:=ZZ (A.o.trans2 D);clear C D;go_wp2;go_roundw
    case rel=>exact⟨k+1,by go_num,by omega,Z,aa⟩
    case measure=>simp[intOf];omega
   | take n=>
    obtain⟨b1,B,t,-⟩:=S;have V:=ZZ (Zpw U x t Q.o );rw[B] at M;clear B t
    go_wp2_with fail
    refine V.o.mono ?_;rintro e R ⟨rfl,C,D⟩;have Z:Hid (Zct R L.kept (N+(k+1)) (fun n=>(look (ZeF d (k+1)) n).map L.ps)):=ZZ (C.fun fun n' _=>by rw[ah.o])
    have aa:=ZZ (A.o.trans2 D);clear C D;go_wp2;go_roundw
    case rel=>exact⟨k+1,by go_num,by omega,Z,aa⟩
    case measure=>simp[intOf];omega
  ·have aN:Hid (k=K):=ZZ (by omega)
   obtain⟨va,vn,vc,aw⟩:=ZhH a.o.rest.row;obtain⟨d4,e4⟩:=ae.o.cell 4 rfl;obtain⟨d2,-⟩:=ae.o.cell 2 rfl;have ap:x.cell? ⟨p,4,none⟩=some L.wv:=d4;rw[aw] at ap;have ad:=ZZ (ae.o.set 4 (.slice none 0 0));have an:Hid (Zct (x.setCell ⟨p,4,none⟩ (.slice none 0 0)) L.now N (fun n=>(look (Zbk d) n).map L.ps)):=ZZ (a.o.rest.now.keep ((Below.heap_setCell _ _ _ _ (a.o.head.neMap a.o.rest.now).symm).trans (A.o.block _ a.o.rest.now.lt (fun e=>a.o.rest.nk (Option.some.inj e)))))
   have ai:Hid (Zct (x.setCell ⟨p,4,none⟩ (.slice none 0 0)) L.kept (N+k) (fun n=>(look (ZeF d k) n).map L.ps)):=ZZ (Q.o.keep (Below.heap_setCell _ _ _ _ (a.o.head.neMap a.o.rest.kept).symm))
   obtain⟨G,J⟩:∃ G,G=x.setCell ⟨p,4,none⟩ (.slice none 0 0):=⟨_,rfl⟩
   have aQ:Hid (Zap F w G):=ZZ (by
    rw[J]
    exact(aG.o.trans (Zap.ofGrown A.o (fun j e _=>by obtain rfl:=Option.some.inj e;exact a.o.rest.fk)) (fun _ _ i=>i)).setCell 4 (fun _=>a.o.fh) _)
   have aJ:Hid (∀ j,F j->j≠p->j≠L.kept->G.heap[j]?=W.heap[j]?):=ZZ (fun j i t v=>by
    rw[J,Below.heap_setCell _ _ _ _ t]
    exact A.o.block j (a.o.lt j i) (fun e=>v (Option.some.inj e)))
   have aT:Hid (W.heap.size<=G.heap.size):=ZZ (by rw[J];have:=A.o.size;simpa using this)
   rw[<-J] at ad an ai;have aA:=ZZ J;clear aw d4 J Q al
   go_upto_region 6 with fail
   rw[<-aA.o];clear aA ap e4 d2;obtain⟨d2,-⟩:=ad.o.cell 2 rfl
   go_wp2_with(first | (with_reducible refine Zmn G rfl _ rfl L.now N _ rfl an.o ?_);intro z ar ac)
   have aj:=ZZ (ad.o.keep (ac.block p ad.o.lt (fun e=>(a.o.head.neMap a.o.rest.now) (Option.some.inj e))))
   have av:=ZZ (ai.o.keep (ac.block _ ai.o.lt (fun e=>a.o.rest.nk (Option.some.inj e).symm)))
   have aL:=ZZ ar;have ag:=ZZ ac;clear ar ac d2;have d2:z.cell? ⟨p,2,none⟩=some (.map (some L.now)):=(aj.o.cell 2 rfl).1;have d3:z.cell? ⟨p,3,none⟩=some (.map (some L.kept)):=(aj.o.cell 3 rfl).1;have aR:N+k<=10000000:=by omega
   have ay:Hid (∀ (X:World) (b n:Nat),Zct X b n (fun n=>(look (ZeF d k) n).map L.ps)->Zct X b N (fun n=>(look (ZeF d k) n).map L.ps)):=ZZ (fun _ _ _ hm=>(hm.tight (l:=(ZeF d k).map Prod.fst) (fun q _ hq=>by
    cases e:look (ZeF d k) q with
    | none=>rw[e] at hq;cases hq
    | some f=>exact List.mem_map.2 ⟨(q,f),(Zcz (ax.o.dirs k).rise q f).1 e,rfl⟩)).mono (by
     have t:=Zey d k;have v:=aO.o.names;simp only [List.length_map]
     omega))
   have aU:=ZZ (Zzc (w:=z.drew) (aL.o.keep rfl) (av.o.keep rfl) a.o.rest.nk aR)
   go_upto_region 7 with fail
   go_region_with
    (first
     | (go_at_call 73;refine aU.o.mono ?_;rintro e W4 ⟨rfl,az,aC⟩;have aK:=ZZ az;have O:=ZZ aC;clear az aC))
   all_goals
    go_wp2;go_end0;have aI:z.heap.size<=W4.heap.size:=O.o.size;have ab:∀ j,j<z.heap.size->j≠L.now->W4.heap[j]?=z.heap[j]?:=fun j hj hn=>O.o.block j hj (fun e=>hn (Option.some.inj e))
    have a2:=ag.o.size;have a3:=aT.o;have aM:p<z.heap.size:=by have:=a.o.head.lt;omega
    have aV:L.kept<z.heap.size:=by have:=a.o.rest.kept.lt;omega
    rw[<-aN.o];refine⟨rfl,a.o.lost (l:=ZeF d k) (by omega) (fun j i t v I=>?_) ?_ (ay.o _ _ _ aK.o) (ay.o _ _ _ (av.o.keep (ab _ aV (Ne.symm a.o.rest.nk)))),?_⟩
    ·have hj:=a.o.lt j i
     rw[ab j (by omega) v,ag.o.block j (by omega) (fun e=>v (Option.some.inj e))]
     exact aJ.o j i t I
    ·exact aj.o.keep (ab p aM (a.o.head.neMap a.o.rest.now))
    ·have o3:Zap F G z:=Zap.ofGrown ag.o (fun j e _=>by obtain rfl:=Option.some.inj e;exact a.o.rest.fn)
     have o4:Zap F z W4:=⟨O.o.os,O.o.tape,O.o.output,aI,fun j hj hn=>ab j hj (fun e=>hn (by rw[e];exact a.o.rest.fn))⟩
     exact(aQ.o.trans o3 (fun _ _ i=>i)).trans o4 (fun _ _ i=>i)
theorem Zuu {w:World} {v:Value} {l:List UInt8} (h:Own w 0 v l):∃ ao cap,v=.slice ao l.length cap∧l.length<=cap∧((ao=none∧cap=0)∨∃ g,ao=some ⟨g,0,none⟩):=ZwH h
theorem ZaM.cutFile {F:Nat->Prop} {w:World} {p:Nat} {L:Lay} {d:Dk} {u:Int} {N f k:Nat} {ao:Option Addr} {cap:Nat} (h:ZaM F w p L d u N) (l:f<d.files.length) (q:L.vs f=.slice ao (fl d.files f).b.length cap) (y:k<=(fl d.files f).b.length):
 ZaM F ((w.setCell ⟨L.ps f,1,none⟩ (.int .i64 (k:Int))).setCell ⟨L.ps f,0,none⟩ (.slice ao k cap)) p { L with vs:=fun i=>if i=f then .slice ao k cap else L.vs i } { d with files:=d.files.set f ⟨(fl d.files f).b.take k,k⟩ } u N:=by
 have c:=h.rest.file f l
 have x:∀ g,(L.vs f).ownBlock=some g->g≠L.ps f:=fun g a=>by
  obtain⟨z,v⟩:=Zeh c.own a;exact v.ne c.box (by decide)
 have m:(Value.slice ao k cap).ownBlock=(L.vs f).ownBlock:=by rw[q];cases ao <;> rfl
 have t:Own w 0 (.slice ao k cap) ((fl d.files f).b.take k):=by
  have:=c.own;rw[q] at this;exact this.front k y
 refine h.setFile (F':=F) l (fun j _ n _=>by rw[Below.heap_setCell _ _ _ _ n,Below.heap_setCell _ _ _ _ n]) ⟨(c.box.set 1 _).set 0 _,Zae t fun g a=>?_⟩ (.inl m) (fun _ e=>e) (fun g a=>h.rest.fv f l g (by rw[<-m];exact a)) (fun j e=>by simpa using h.lt j e)
 have:=x g (by rw[<-m];exact a)
 rw[Below.heap_setCell _ _ _ _ this,Below.heap_setCell _ _ _ _ this]
theorem ZwI {n:Nat} (h:n<=1000000000000000):IntKind.i64.wrap (n:Int)=(n:Int):=by
 rw[IntKind.wrap_i64];omega
theorem ZeM {l:Dir} {i:Nat} (h:i<l.length):l.take (i+1)=l.take i++[l[i]]:=List.take_succ_eq_append_getElem h
theorem ZiD {l:Dir} (h:ZeQ l) {i:Nat} (c:i<l.length):∀ p ∈ l.take i,p.2≠l[i].2:=by
 intro p b;have a:ZeQ (l.take (i+1)):=List.Pairwise.sublist (List.take_sublist _ _) h;rw[ZeM c] at a;exact(List.pairwise_append.1 a).2.2 p b _ (List.mem_singleton.2 rfl)
theorem ZpC (keep:List Int) {l:Dir} (h:ZeQ l) {i:Nat} (a:i<l.length) (fs:List Fl):Zaw keep (l.take (i+1)) 0 fs=(Zaw keep (l.take i) 0 fs).set l[i].2 (ZmL (fl fs l[i].2) (ZjB keep i)):=by
 rw[ZeM a,Zkc,Zet keep _ 0 fs _ (ZiD h a)];have:(l.take i).length=i:=by rw[length_take];omega
 rw[this,Nat.zero_add]
theorem Zuv (keep:List Int) {l:Dir} (h:ZeQ l) {i:Nat} (a:i<l.length) {fs:List Fl} (f:l[i].2<fs.length) (g:∀ x ∈ fs,x.k<=x.b.length):
 ZdE (Zaw keep (l.take (i+1)) 0 fs) (l.take (i+1))=ZdE (Zaw keep (l.take i) 0 fs) (l.take i)+(ZmL (fl fs l[i].2) (ZjB keep i)).k:=by
 rw[ZpC keep h a];have j:ZdE ((Zaw keep (l.take i) 0 fs).set l[i].2 (ZmL (fl fs l[i].2) (ZjB keep i))) (l.take i)=ZdE (Zaw keep (l.take i) 0 fs) (l.take i):=ZnW fun p d=>by rw[ZcF (fun e=>ZiD h a p d e.symm)]
 have c:(fl ((Zaw keep (l.take i) 0 fs).set l[i].2 (ZmL (fl fs l[i].2) (ZjB keep i))) l[i].2).b.length=(ZmL (fl fs l[i].2) (ZjB keep i)).k:=by
  rw[Zfg (by rw[Zci];exact f),ZsV (Zkd g _)]
 rw[ZeM a,ZgZ,j,ZcU,ZjS,c];rfl
theorem ZfX {T:Nat} (keep:List Int):∀ (l:Dir) (i:Nat) (fs:List Fl),(∀ x ∈ fs,x.b.length<=T)->(∀ p ∈ l,p.2<fs.length)->∀ x ∈ Zaw keep l i fs,x.b.length<=T
 | [],_,_,h,_=>h
 | p::l,i,fs,h,hl=>by
  rw[Zaw];refine ZfX keep l (i+1) _ (fun x a=>?_) (fun q c=>by rw[List.length_set];exact hl q (List.mem_cons_of_mem _ c))
  rcases List.mem_or_eq_of_mem_set a with a | rfl
  ·exact h x a
  ·have:=h _ (ZeS (hl p (List.mem_cons_self ..)))
   simp only [ZmL,length_take];omega
theorem ZnZ {F:Nat->Prop} {p:Nat} {L:Lay} {d:Dk} {u:Int} {N T:Nat} (vk:Value) (keep:List Int) (w:World) (h:ZaM F w p L d u N) (hw:d.waits=[]) (aD:OkD d) (aK:Bnd d N T) (hN:N<=1000000) (hT:T<=1000000000) (hr:RdI w vk keep) (aI:keep=[]∨∀ k,vk.ownBlock=some k->¬ F k) (bk:keep.length<=1000000000):
 Calls prog 32 #[ptr p,vk] w fun e w'=>e=.returned (.tuple #[])∧(∃ L',ZaM F w' p L' { d with files:=Zaw keep d.kept 0 d.files } (ZdE (Zaw keep d.kept 0 d.files) d.kept:Nat) N)∧Zap F w w':=by
 have H:=ZZ h;have aU:=ZZ aD;have aX:=ZZ aK;have aZ:=ZZ hr;have bb:=ZZ aI;obtain⟨⟨-,c1,-,-,-,-⟩,f1,-⟩:=h.cells;obtain⟨ka,kc,rfl,-⟩:=hr;obtain⟨l,hl⟩:∃ l,l=d.kept:=⟨_,rfl⟩;have a3:Hid (Zbk d=l):=ZZ (by unfold Zbk;rw[hw,hl];rfl)
 have a1:Hid (l.length<=N):=ZZ (by have:=aK.names;rw[hl];omega)
 have X:Hid (OkL d.files.length l):=ZZ (by rw[hl];exact aD.kept)
 have a9:=ZZ hl;have ah:=ZZ (h.setHead 1 (.int .i64 0) (d':=d) (u':=0) ⟨rfl,rfl,rfl⟩ rfl);have az:Hid (Zap F w (w.setCell ⟨p,1,none⟩ (.int .i64 0))):=ZZ ((Zap.refl _ _).setCell 1 (fun _=>h.fh) _)
 obtain⟨W1,aJ⟩:∃ W1,W1=w.setCell ⟨p,1,none⟩ (.int .i64 0):=⟨_,rfl⟩;rw[<-aJ] at ah az;have aT:=ZZ (ZhJ W1 ah.o aD hN);have aW:=ZZ (aZ.o.onlyE az.o aI);have aV:=ZZ aJ;clear aJ h aD aK aI hl hw
 go_enter func32,ntmps32
 go_upto_region 1 with fail
 rw[<-aV.o];clear aV c1 f1
 go_wp2_with fail
 refine aT.o.mono ?_;rintro e W2 ⟨vn,rfl,aB,aj⟩;rw[a3.o] at aB
 have a5:Hid (∀ x ∈ l.map Prod.fst,I64 x):=ZZ (fun x hx=>by
  obtain⟨q,hq,rfl⟩:=List.mem_map.1 hx
  exact Zfr (X.o.may q hq).1)
 have a2:=ZZ (aB.rd a5.o)
 have bc:Hid (∀ k,vn.ownBlock=some k->¬ F k):=ZZ (fun k hk hf=>by
  have K:=(World.ownsRow.lt aB k hk).1;have Q:=ah.o.lt k hf
  omega)
 have a8:Hid (ZaM F W2 p L d 0 N):=ZZ (ah.o.keep (fun k hf=>aj.block k (ah.o.lt k hf)) aj.size)
 have bd:Hid (Zap F w W2):=ZZ (az.o.trans (G:=fun _=>False) (Zap.ofBelow aj) (fun _ _ hf=>hf.elim))
 have ba:=ZZ (aW.o.below aj zL);obtain⟨na,nc,rfl,-⟩:=a2.o;clear aB aj aT aW aZ ah az H;have bh:(l.map Prod.fst).length=l.length:=List.length_map ..;rw[bh];go_wp2
 go_loopw[14] (fun vi E=>∃ i:Nat,vi=.int .i64 (i:Int)∧i<=l.length∧∃ B,Hid (ZaM F E p B { d with files:=Zaw keep (l.take i) 0 d.files } (ZdE (Zaw keep (l.take i) 0 d.files) (l.take i):Nat) N)∧Hid (Zap F W2 E)) (fun vi _=>l.length-(intOf vi).toNat)
 case atStart=>exact⟨0,rfl,Nat.zero_le _,L,by simpa[Zaw,ZdE] using a8,ZZ (Zap.refl _ _)⟩
 case round=>
  obtain⟨i,rfl,bn,B,I,aq⟩:=hrel;by_cases Z:i<l.length
  case neg=>
   have hi:i=l.length:=by omega
   subst hi;rw[List.take_length,a9.o] at I;go_wp2;go_end0;exact⟨rfl,⟨B,I.o⟩,bd.o.trans aq.o (fun _ _ hf=>hf)⟩
  obtain⟨n,f,af⟩:∃ n f,l[i]=(n,f):=⟨_,_,rfl⟩;have aC:(n,f) ∈ l:=by rw[<-af];exact List.getElem_mem Z
  have aE:f<d.files.length:=(X.o.may _ aC).2;have aL:I64 n:=Zfr (X.o.may _ aC).1;have aQ:(Zaw keep (l.take i) 0 d.files).length=d.files.length:=Zci _ _ _ _;obtain⟨x,hx⟩:∃ x,x=fl d.files f:=⟨_,rfl⟩
  have ar:fl (Zaw keep (l.take i) 0 d.files) f=x:=by
   rw[hx];refine Zet keep _ 0 _ _ fun q hq=>?_
   have:=ZiD X.o.apart Z q hq;rw[af] at this;exact this
  have ac:Hid (Zpp E (B.ps f) (B.vs f) x):=ZZ (by
   have:=I.o.rest.file f (by show f<(Zaw keep (l.take i) 0 d.files).length;omega)
   rw[<-ar]
   exact this)
  have bi:x.k<=x.b.length:=by rw[hx];exact Zkd aU.o.keep f
  have bg:x.b.length<=T:=by rw[hx];exact aX.o.bytes _ (ZeS aE)
  obtain⟨ao,cap,aA,bj,bx⟩:=Zuu ac.o.own;have z:E.cell? ⟨B.ps f,0,none⟩=some (.slice ao x.b.length cap):=by rw[<-aA];exact(ac.o.box.cell 0 rfl).1
  have y0:E.frozen? ⟨B.ps f,0,none⟩=false:=(ac.o.box.cell 0 rfl).2;have g1:E.cell? ⟨B.ps f,1,none⟩=some (.int .i64 (x.k:Int)):=(ac.o.box.cell 1 rfl).1;have y1:E.frozen? ⟨B.ps f,1,none⟩=false:=(ac.o.box.cell 1 rfl).2;obtain⟨U,hU⟩:∃ U:Nat,U=ZdE (Zaw keep (l.take i) 0 d.files) (l.take i):=⟨_,rfl⟩
  have bA:U<=1000000000000000:=by
   rw[hU];have K:=Zrs (T:=T) (fs:=Zaw keep (l.take i) 0 d.files) (ZfX keep _ 0 _ aX.o.bytes (fun q hq=>(X.o.may q (List.mem_of_mem_take hq)).2)) (l.take i) (fun q hq=>by rw[aQ];exact(X.o.may q (List.mem_of_mem_take hq)).2)
   have Q:(l.take i).length<=N:=by have:=a1.o;rw[length_take];omega
   have h3:(l.take i).length*T<=1000000*1000000000:=Nat.mul_le_mul (by omega) hT
   omega
  rw[<-hU] at I;have k1:E.cell? ⟨p,1,none⟩=some (.int .i64 (U:Int)):=I.o.cells.1.2.1;have j1:E.frozen? ⟨p,1,none⟩=false:=I.o.cells.2.1;have k2:E.cell? ⟨p,2,none⟩=some (.map (some B.now)):=I.o.cells.1.2.2.1
  have aF:(Instr.lookup 65 (.map (some B.now)) (.int .i64 n) false).run prog E=.ok (.pointer (some ⟨B.ps f,0,none⟩)) E:=by
   have K:=I.o.rest.now.look1 aL
   have Q:look (Zbk { d with files:=Zaw keep (l.take i) 0 d.files }) n=some f:=by
    show look (Zbk d) n=some f;rw[a3.o];exact(Zcz X.o.rise n f).2 aC
   rw[Q] at K;exact K
  obtain⟨nb,av,rfl,aN⟩:∃ nb av,na=some ⟨nb,av,none⟩∧E.cell? ⟨nb,av+i,none⟩=some (.int .i64 n):=by
   have K:=a2.o.only aq.o bc.o;obtain⟨a',c',ai,_,_,_,_,h6⟩:=K;simp only [Value.slice.injEq] at ai;obtain⟨rfl,_,rfl⟩:=ai;rcases h6 with h6 | ⟨nb,av,rfl,h7⟩
   ·have:l=[]:=by simpa using h6
    rw[this] at Z;simp at Z
   ·refine⟨nb,av,rfl,?_⟩
    have h8:=h7 i (by simpa using Z)
    rw[h8];simp[List.getD,Z,af]
  obtain⟨A,hA⟩:∃ A,A=ZjB keep i:=⟨_,rfl⟩;obtain⟨m,hm⟩:∃ m,m=x.b.length-x.k:=⟨_,rfl⟩;have aM:(x.b.length:Int)-(x.k:Int)=(m:Int):=by omega
  obtain⟨sh,ax⟩:∃ sh,sh=Zcv A m:=⟨_,rfl⟩;have bf:sh<=m:=by rw[ax];exact Zhq _ _
  obtain⟨y,a4⟩:∃ y,y=x.k+sh:=⟨_,rfl⟩;have a7:(x.k:Int)+(sh:Int)=(y:Int):=by omega
  have a0:y<=x.b.length:=by omega
  have ag:Hid (∀ W,Calls prog 72 #[.int .i64 A,.int .i64 (m:Int)] W fun e w'=>e=.returned (.int .i64 (sh:Int))∧w'=W):=ZZ (fun W=>by rw[ax];exact Zps A m (by omega) W)
  have aR:Hid (ZmL x A=⟨x.b.take y,y⟩):=ZZ (by rw[a4,ax,hm];rfl)
  have aG:Hid (ZaM F (((E.setCell ⟨B.ps f,1,none⟩ (.int .i64 (y:Int))).setCell ⟨B.ps f,0,none⟩ (.slice ao y cap)).setCell ⟨p,1,none⟩ (.int .i64 ((U:Int)+(y:Int)))) p { B with vs:=fun j=>if j=f then .slice ao y cap else B.vs j } { d with files:=Zaw keep (l.take (i+1)) 0 d.files } (ZdE (Zaw keep (l.take (i+1)) 0 d.files) (l.take (i+1)):Nat) N):=ZZ (by
   have K:=I.o.cutFile (f:=f) (k:=y) (ao:=ao) (cap:=cap) (by show f<(Zaw keep (l.take i) 0 d.files).length;omega) (by show B.vs f=.slice ao (fl (Zaw keep (l.take i) 0 d.files) f).b.length cap;rw[ar];exact aA) (by show y<=(fl (Zaw keep (l.take i) 0 d.files) f).b.length;rw[ar];exact a0)
   have Q:=Zuv keep X.o.apart Z (fs:=d.files) (by rw[af];exact aE) aU.o.keep
   have h3:=ZpC keep X.o.apart Z d.files;rw[af,<-hx,<-hA,aR.o] at Q h3;rw[Q,h3,<-hU]
   dsimp only at K
   rw[ar] at K;have e1:((U+y:Nat):Int)=(U:Int)+(y:Int):=by omega
   show ZaM F _ p _ _ ((U+y:Nat):Int) N;rw[e1]
   exact K.setHead 1 _ ⟨rfl,rfl,rfl⟩ rfl)
  have M:Hid (Zap F W2 (((E.setCell ⟨B.ps f,1,none⟩ (.int .i64 (y:Int))).setCell ⟨B.ps f,0,none⟩ (.slice ao y cap)).setCell ⟨p,1,none⟩ (.int .i64 ((U:Int)+(y:Int))))):=ZZ (((aq.o.setCell 1 (fun _=>I.o.rest.fp f (by show f<(Zaw keep (l.take i) 0 d.files).length;omega)) _).setCell 0 (fun _=>I.o.rest.fp f (by show f<(Zaw keep (l.take i) 0 d.files).length;omega)) _).setCell 1 (fun _=>I.o.fh) _)
  have am:Hid (p≠B.ps f):=ZZ (I.o.head.ne ac.o.box (by decide))
  obtain⟨P,hP⟩:∃ P,P=B.ps f:=⟨_,rfl⟩;have ap:Hid (Bk 117 E (B.ps f) #[.slice ao x.b.length cap,.int .i64 (x.k:Int)]):=ZZ (by rw[<-aA];exact ac.o.box)
  obtain⟨DI,aS⟩:∃ DI,DI={ d with files:=Zaw keep (l.take i) 0 d.files }:=⟨_,rfl⟩
  have aP:Hid (Bk 69 E p (ZiC B DI (U:Int))):=ZZ (by rw[aS];exact I.o.head)
  clear aS;rw[<-hP] at z y0 g1 y1 aF aG M am ap;obtain⟨Y,aO⟩:∃ Y,Y=x.b.length:=⟨_,rfl⟩;obtain⟨xk,aY⟩:∃ xk,xk=x.k:=⟨_,rfl⟩;rw[<-aO] at z aM a0 bg bj ap;rw[<-aY] at g1 aM a7 ap;have bm:y<=cap:=by omega
  have HA:=ZZ hA;have be:=ZZ (ba.o.onlyE aq.o bb.o);clear af aC aE aL aQ hx ar bi aA hU hA hm ax bf a4 hP aO aY ac I aq aR;have ay:=ZZ Z;have br:i<=1000000:=by have:=a1.o;omega
  have bw:IntKind.i64.wrap (m:Int)=(m:Int):=ZwI (by omega)
  have bp:IntKind.i64.wrap (y:Int)=(y:Int):=ZwI (by omega)
  have ad:Hid ((E.setCell ⟨P,1,none⟩ (.int .i64 (y:Int))).cell? ⟨P,0,none⟩=some (.slice ao Y cap)):=ZZ (by
   rw[World.cell?_setCell_other _ _ _ _ (by intro h;injection h with _ h;cases h)]
   exact z)
  by_cases ae:keep.length=0
  ·have e0:A=0:=by rw[HA.o];exact if_pos ae
   subst e0;have bu:decide ((keep.length:Int)>0)=false:=decide_eq_false (by omega)
   have bz:decide (0<keep.length)=false:=decide_eq_false (by omega)
   clear ae
   go_upto_region 7 with fail
   clear aN aF k2
   go_cut[] (fun wd=>Hid (∃ q,wd=(E.setCell ⟨P,1,none⟩ (.int .i64 (y:Int))).drewN q))
   case first=>
    refine wp_region_held_drew (S:=fun w'=>w'.cell? ⟨P,0,none⟩=some (.slice ao Y cap)) (by kernel_rfl) (by exact z) (fun D=>?_)
    refine wpAnyH_take (i:=0) (v:=?_) rfl (by kernel_rfl) (by kernel_rfl) (by kernel_rfl) (fun _ _ _ h=>h) (Or.inl ⟨by rfl,?_⟩) (by assumption) ?_
    rotate_left
    ·intro g c
     go_simp
     try with_reducible rfl
    simp only [Act.put,getElem_toArray,getElem_cons_zero,setIfInBounds_toArray,set_cons_zero,set_cons_succ];refine wpAnyH_take (i:=1) (v:=?_) rfl (by kernel_rfl) (by kernel_rfl) (by kernel_rfl) (fun _ _ _ h=>h) (Or.inl ⟨by rfl,?_⟩) (by assumption) ?_
    rotate_left
    ·intro g c
     go_simp
     try with_reducible rfl
    simp only [Act.put,getElem_toArray,getElem_cons_zero,getElem_cons_succ,setIfInBounds_toArray,set_cons_zero,set_cons_succ];refine wpAnyH_take (i:=2) (v:=?_) rfl (by kernel_rfl) (by kernel_rfl) (by kernel_rfl) (fun _ _ _ h=>h) (Or.inl ⟨by rfl,?_⟩) (by assumption) ?_
    rotate_left
    ·intro g c
     go_simp
     try with_reducible rfl
    simp only [Act.put,getElem_toArray,getElem_cons_zero,getElem_cons_succ,setIfInBounds_toArray,set_cons_zero,set_cons_succ];refine wpAnyH_take (i:=4) (v:=?_) rfl (by kernel_rfl) (by kernel_rfl) (by kernel_rfl) (fun _ _ _ h=>h) (Or.inl ⟨by rfl,?_⟩) (by assumption) ?_
    rotate_left
    ·intro g c
     go_simp
     try with_reducible rfl
    simp only [Act.put,getElem_toArray,getElem_cons_zero,getElem_cons_succ,setIfInBounds_toArray,set_cons_zero,set_cons_succ];refine wpAnyH_take (i:=5) (v:=?_) rfl (by kernel_rfl) (by kernel_rfl) (by kernel_rfl) (fun _ _ _ h=>h) (Or.inl ⟨by rfl,?_⟩) (by assumption) ?_
    rotate_left
    ·intro g c
     go_simp
     try with_reducible rfl
    simp only [Act.put,getElem_toArray,getElem_cons_zero,getElem_cons_succ,setIfInBounds_toArray,set_cons_zero,set_cons_succ];refine wpAnyH_take (i:=6) (v:=?_) rfl (by kernel_rfl) (by kernel_rfl) (by kernel_rfl) (fun _ _ _ h=>h) (Or.inl ⟨by rfl,?_⟩) (by assumption) ?_
    rotate_left
    ·intro g c
     go_simp
     try with_reducible rfl
    simp only [Act.put,getElem_toArray,getElem_cons_zero,getElem_cons_succ,setIfInBounds_toArray,set_cons_zero,set_cons_succ];refine wpAnyH_take (i:=7) (v:=?_) rfl (by kernel_rfl) (by kernel_rfl) (by kernel_rfl) (fun _ _ _ h=>h) (Or.inl ⟨by rfl,?_⟩) (by assumption) ?_
    rotate_left
    ·intro g c
     go_simp
     try with_reducible rfl
    simp only [Act.put,getElem_toArray,getElem_cons_zero,getElem_cons_succ,setIfInBounds_toArray,set_cons_zero,set_cons_succ];refine wpAnyH_take (i:=8) (v:=?_) rfl (by kernel_rfl) (by kernel_rfl) (by kernel_rfl) (fun _ _ _ h=>h) (Or.inl ⟨by rfl,?_⟩) (by assumption) ?_
    rotate_left
    ·intro g c
     go_simp
     try with_reducible rfl
    simp only [Act.put,getElem_toArray,getElem_cons_zero,getElem_cons_succ,setIfInBounds_toArray,set_cons_zero,set_cons_succ];refine wpAnyH_take (i:=9) (v:=?_) rfl (by kernel_rfl) (by kernel_rfl) (by kernel_rfl) (fun _ _ _ h=>h) (Or.inl ⟨by rfl,?_⟩) (by assumption) ?_
    rotate_left
    ·intro g c
     go_simp
     try with_reducible rfl
    simp only [Act.put,getElem_toArray,getElem_cons_zero,getElem_cons_succ,setIfInBounds_toArray,set_cons_zero,set_cons_succ];refine wpAnyH_take (i:=10) (v:=?_) rfl (by kernel_rfl) (by kernel_rfl) (by kernel_rfl) (fun _ _ _ h=>h) (Or.inl ⟨by rfl,?_⟩) (by assumption) ?_
    rotate_left
    ·intro g c
     go_simp
     try with_reducible rfl
    simp only [Act.put,getElem_toArray,getElem_cons_zero,getElem_cons_succ,setIfInBounds_toArray,set_cons_zero,set_cons_succ];refine wpAnyH_take (i:=11) (v:=?_) rfl (by kernel_rfl) (by kernel_rfl) (by kernel_rfl) (fun _ _ _ h=>h) (Or.inl ⟨by rfl,?_⟩) (by assumption) ?_
    rotate_left
    ·intro g c
     go_simp
     try with_reducible rfl
    simp only [Act.put,getElem_toArray,getElem_cons_zero,getElem_cons_succ,setIfInBounds_toArray,set_cons_zero,set_cons_succ];refine wpAnyH_take (i:=12) (v:=?_) rfl (by kernel_rfl) (by kernel_rfl) (by kernel_rfl) (fun _ _ _ h=>h) (Or.inl ⟨by rfl,?_⟩) (by assumption) ?_
    rotate_left
    ·intro g c
     go_simp
     try with_reducible rfl
    simp only [Act.put,getElem_toArray,getElem_cons_zero,getElem_cons_succ,setIfInBounds_toArray,set_cons_zero,set_cons_succ];refine wpAnyH_ready (rs:=[3,13]) (by kernel_rfl) (by simp) ?_
    refine AllReadyH.cons rfl (fun t a=>?_) (AllReadyH.cons rfl (fun t a=>?_) AllReadyH.nil)
    ·go_simp
     refine a.o _ _ (by exact z) (fun D=>?_)
     clear a t;refine wpAnyH_ready (rs:=[13]) (by kernel_rfl) (by simp) ?_
     refine AllReadyH.cons rfl (fun t a=>?_) AllReadyH.nil
     go_simp
     refine a.o _ _ (by exact z) (fun D=>?_)
     clear a t;refine wpAnyH_take (i:=14) (v:=?_) rfl (by kernel_rfl) (by kernel_rfl) (by kernel_rfl) (fun _ _ _ h=>h) (Or.inl ⟨by rfl,?_⟩) (by assumption) ?_
     rotate_left
     ·intro g c
      go_simp
      try with_reducible rfl
     simp only [Act.put,getElem_toArray,getElem_cons_zero,getElem_cons_succ,setIfInBounds_toArray,set_cons_zero,set_cons_succ];refine wpAnyH_ready (rs:=[15]) (by kernel_rfl) (by simp) ?_
     refine AllReadyH.cons rfl (fun t a=>?_) AllReadyH.nil
     go_simp
     go_wp2_with((go_at_call 72;refine(ag.o _).mono ?_;rintro e w5 ⟨rfl,rfl⟩))
     refine a.o _ _ (by exact z) (fun D=>?_)
     clear a t;refine wpAnyH_take (i:=16) (v:=?_) rfl (by kernel_rfl) (by kernel_rfl) (by kernel_rfl) (fun _ _ _ h=>h) (Or.inl ⟨by rfl,?_⟩) (by assumption) ?_
     rotate_left
     ·intro g c
      go_simp
      try with_reducible rfl
     simp only [Act.put,getElem_toArray,getElem_cons_zero,getElem_cons_succ,setIfInBounds_toArray,set_cons_zero,set_cons_succ];refine wpAnyH_take (i:=17) (v:=?_) rfl (by kernel_rfl) (by kernel_rfl) (by kernel_rfl) (fun _ _ _ h=>h) (Or.inl ⟨by rfl,?_⟩) (by assumption) ?_
     rotate_left
     ·intro g c
      go_simp
      try with_reducible rfl
     simp only [Act.put,getElem_toArray,getElem_cons_zero,getElem_cons_succ,setIfInBounds_toArray,set_cons_zero,set_cons_succ];refine wpAnyH_take (i:=18) (v:=?_) rfl (by kernel_rfl) (by kernel_rfl) (by kernel_rfl) (fun _ _ _ h=>h) (Or.inl ⟨by rfl,?_⟩) (by assumption) ?_
     rotate_left
     ·intro g c
      go_simp
      try with_reducible rfl
     simp only [Act.put,getElem_toArray,getElem_cons_zero,getElem_cons_succ,setIfInBounds_toArray,set_cons_zero,set_cons_succ];refine wpAnyH_ready (rs:=[19]) (by kernel_rfl) (by simp) ?_
     refine AllReadyH.cons rfl (fun t a=>?_) AllReadyH.nil
     go_simp
     refine a.o _ _ (by exact ad.o) (fun D=>?_)
     clear a t;refine wpAnyH_done (by kernel_rfl) ?_ _
     go_wp2_with fail
     go_meet
     exact ZZ ⟨1,rfl⟩
    ·go_simp
     refine a.o _ _ (by exact z) (fun D=>?_)
     clear a t;refine wpAnyH_take (i:=14) (v:=?_) rfl (by kernel_rfl) (by kernel_rfl) (by kernel_rfl) (fun _ _ _ h=>h) (Or.inl ⟨by rfl,?_⟩) (by assumption) ?_
     rotate_left
     ·intro g c
      go_simp
      try with_reducible rfl
     simp only [Act.put,getElem_toArray,getElem_cons_zero,getElem_cons_succ,setIfInBounds_toArray,set_cons_zero,set_cons_succ];refine wpAnyH_ready (rs:=[3,15]) (by kernel_rfl) (by simp) ?_
     refine AllReadyH.cons rfl (fun t a=>?_) (AllReadyH.cons rfl (fun t a=>?_) AllReadyH.nil)
     ·go_simp
      refine a.o _ _ (by exact z) (fun D=>?_)
      clear a t;refine wpAnyH_ready (rs:=[15]) (by kernel_rfl) (by simp) ?_
      refine AllReadyH.cons rfl (fun t a=>?_) AllReadyH.nil
      go_simp
      go_wp2_with((go_at_call 72;refine(ag.o _).mono ?_;rintro e w5 ⟨rfl,rfl⟩))
      refine a.o _ _ (by exact z) (fun D=>?_)
      clear a t;refine wpAnyH_take (i:=16) (v:=?_) rfl (by kernel_rfl) (by kernel_rfl) (by kernel_rfl) (fun _ _ _ h=>h) (Or.inl ⟨by rfl,?_⟩) (by assumption) ?_
      rotate_left
      ·intro g c
       go_simp
       try with_reducible rfl
      simp only [Act.put,getElem_toArray,getElem_cons_zero,getElem_cons_succ,setIfInBounds_toArray,set_cons_zero,set_cons_succ];refine wpAnyH_take (i:=17) (v:=?_) rfl (by kernel_rfl) (by kernel_rfl) (by kernel_rfl) (fun _ _ _ h=>h) (Or.inl ⟨by rfl,?_⟩) (by assumption) ?_
      rotate_left
      ·intro g c
       go_simp
       try with_reducible rfl
      simp only [Act.put,getElem_toArray,getElem_cons_zero,getElem_cons_succ,setIfInBounds_toArray,set_cons_zero,set_cons_succ];refine wpAnyH_take (i:=18) (v:=?_) rfl (by kernel_rfl) (by kernel_rfl) (by kernel_rfl) (fun _ _ _ h=>h) (Or.inl ⟨by rfl,?_⟩) (by assumption) ?_
      rotate_left
      ·intro g c
       go_simp
       try with_reducible rfl
      simp only [Act.put,getElem_toArray,getElem_cons_zero,getElem_cons_succ,setIfInBounds_toArray,set_cons_zero,set_cons_succ];refine wpAnyH_ready (rs:=[19]) (by kernel_rfl) (by simp) ?_
      refine AllReadyH.cons rfl (fun t a=>?_) AllReadyH.nil
      go_simp
      refine a.o _ _ (by exact ad.o) (fun D=>?_)
      clear a t;refine wpAnyH_done (by kernel_rfl) ?_ _
      go_wp2_with fail
      go_meet
      exact ZZ ⟨1,rfl⟩
     ·go_simp
      go_wp2_with((go_at_call 72;refine(ag.o _).mono ?_;rintro e w5 ⟨rfl,rfl⟩))
      refine a.o _ _ (by exact z) (fun D=>?_)
      clear a t;refine wpAnyH_ready (rs:=[3]) (by kernel_rfl) (by simp) ?_
      refine AllReadyH.cons rfl (fun t a=>?_) AllReadyH.nil
      go_simp
      refine a.o _ _ (by exact z) (fun D=>?_)
      clear a t;refine wpAnyH_take (i:=16) (v:=?_) rfl (by kernel_rfl) (by kernel_rfl) (by kernel_rfl) (fun _ _ _ h=>h) (Or.inl ⟨by rfl,?_⟩) (by assumption) ?_
      rotate_left
      ·intro g c
       go_simp
       try with_reducible rfl
      simp only [Act.put,getElem_toArray,getElem_cons_zero,getElem_cons_succ,setIfInBounds_toArray,set_cons_zero,set_cons_succ];refine wpAnyH_take (i:=17) (v:=?_) rfl (by kernel_rfl) (by kernel_rfl) (by kernel_rfl) (fun _ _ _ h=>h) (Or.inl ⟨by rfl,?_⟩) (by assumption) ?_
      rotate_left
      ·intro g c
       go_simp
       try with_reducible rfl
      simp only [Act.put,getElem_toArray,getElem_cons_zero,getElem_cons_succ,setIfInBounds_toArray,set_cons_zero,set_cons_succ];refine wpAnyH_take (i:=18) (v:=?_) rfl (by kernel_rfl) (by kernel_rfl) (by kernel_rfl) (fun _ _ _ h=>h) (Or.inl ⟨by rfl,?_⟩) (by assumption) ?_
      rotate_left
      ·intro g c
       go_simp
       try with_reducible rfl
      simp only [Act.put,getElem_toArray,getElem_cons_zero,getElem_cons_succ,setIfInBounds_toArray,set_cons_zero,set_cons_succ];refine wpAnyH_ready (rs:=[19]) (by kernel_rfl) (by simp) ?_
      refine AllReadyH.cons rfl (fun t a=>?_) AllReadyH.nil
      go_simp
      refine a.o _ _ (by exact ad.o) (fun D=>?_)
      clear a t;refine wpAnyH_done (by kernel_rfl) ?_ _
      go_wp2_with fail
      go_meet
      exact ZZ ⟨1,rfl⟩
   case rest=>
    obtain⟨q7,ab⟩:=hcut.o;have O:Hid (Bk 117 C P #[.slice ao Y cap,.int .i64 (y:Int)]):=ZZ (by rw[ab];exact ap.o.set 1 _)
    have an:Hid (Bk 69 C p (ZiC B DI (U:Int))):=ZZ (by rw[ab];exact aP.o.other P 1 _ am.o)
    have aa:=ZZ ab;have z:C.cell? ⟨P,0,none⟩=some (.slice ao Y cap):=(O.o.cell 0 rfl).1;have y0:C.frozen? ⟨P,0,none⟩=false:=(O.o.cell 0 rfl).2;have g1:C.cell? ⟨P,1,none⟩=some (.int .i64 (y:Int)):=(O.o.cell 1 rfl).1;clear ab hcut;obtain⟨W7,aw⟩:∃ W7,W7=C:=⟨_,rfl⟩;rw[<-aw] at O an aa z y0 g1 ⊢;clear aw
    go_upto_region 8 with fail
    go_cut[] (fun wd=>Hid (∃ q,wd=(W7.setCell ⟨P,0,none⟩ (.slice ao y cap)).drewN q))
    case first=>
     go_region
     all_goals
      go_wp2_with fail
      go_meet
      exact ZZ ⟨1,rfl⟩
    case rest=>
     obtain⟨q8,V⟩:=hcut.o;have aH:Hid (Bk 117 C P #[.slice ao y cap,.int .i64 (y:Int)]):=ZZ (by rw[V];exact O.o.set 0 _)
     have al:Hid (Bk 69 C p (ZiC B DI (U:Int))):=ZZ (by rw[V];exact an.o.other P 0 _ am.o)
     have R:=ZZ V;have K:C.cell? ⟨P,1,none⟩=some (.int .i64 (y:Int)):=(aH.o.cell 1 rfl).1;have Q:C.cell? ⟨p,1,none⟩=some (.int .i64 (U:Int)):=(al.o.cell 1 rfl).1;have h3:C.frozen? ⟨p,1,none⟩=false:=(al.o.cell 1 rfl).2;clear V hcut z y0 g1;obtain⟨W8,ak⟩:∃ W8,W8=C:=⟨_,rfl⟩;rw[<-ak] at R K Q h3 ⊢;clear ak
     go_upto_region 9 with fail
     go_region
     all_goals
      go_wp2;go_roundw
      case rel=>
       refine⟨i+1,by go_num,by have:=ay.o;omega,_,ZZ (aG.o.keep (w':=(W8.setCell ⟨p,1,none⟩ (.int .i64 ((U:Int)+(y:Int)))).drew) (fun k _=>?_) ?_),ZZ ?_⟩
       ·rw[R.o,aa.o]
        rfl
       ·rw[R.o,aa.o]
        exact Nat.le_refl _
       ·rw[R.o,aa.o]
        exact⟨M.o.os,M.o.tape,M.o.output,M.o.size,M.o.block⟩
      case measure=>have:=ay.o;simp[intOf];omega
  ·obtain⟨J,hJ⟩:∃ J,J=i % keep.length:=⟨_,rfl⟩
   have a6:J<keep.length:=by rw[hJ];exact Nat.mod_lt _ (by omega)
   have bv:(i:Int) % (keep.length:Int)=(J:Int):=by rw[hJ];omega
   have eA:keep.getD J 0=A:=by rw[HA.o,hJ];exact(if_neg ae).symm
   obtain⟨kb,au,rfl,bq⟩:∃ kb au,ka=some ⟨kb,au,none⟩∧E.cell? ⟨kb,au+J,none⟩=some (.int .i64 A):=by
    obtain⟨a',c',ai,_,_,_,_,h6⟩:=be.o;simp only [Value.slice.injEq] at ai;obtain⟨rfl,_,rfl⟩:=ai;rcases h6 with h6 | ⟨kb,au,rfl,h7⟩
    ·rw[h6] at ae
     simp at ae
    ·exact⟨kb,au,rfl,by rw[h7 J a6,eA]⟩
   have bt:0<keep.length:=by omega
   have bo:(0:Int)<(keep.length:Int):=by omega
   clear eA hJ ae
   go_upto_region 7 with fail
   clear aN aF k2
   go_cut[] (fun wd=>Hid (∃ q,wd=(E.setCell ⟨P,1,none⟩ (.int .i64 (y:Int))).drewN q))
   case first=>
    refine wp_region_held_drew (S:=fun w'=>w'.cell? ⟨P,0,none⟩=some (.slice ao Y cap)) (by kernel_rfl) (by exact z) (fun D=>?_)
    refine wpAnyH_take (i:=0) (v:=?_) rfl (by kernel_rfl) (by kernel_rfl) (by kernel_rfl) (fun _ _ _ h=>h) (Or.inl ⟨by rfl,?_⟩) (by assumption) ?_
    rotate_left
    ·intro g c
     go_simp
     try with_reducible rfl
    simp only [Act.put,getElem_toArray,getElem_cons_zero,setIfInBounds_toArray,set_cons_zero,set_cons_succ];refine wpAnyH_take (i:=1) (v:=?_) rfl (by kernel_rfl) (by kernel_rfl) (by kernel_rfl) (fun _ _ _ h=>h) (Or.inl ⟨by rfl,?_⟩) (by assumption) ?_
    rotate_left
    ·intro g c
     go_simp
     try with_reducible rfl
    simp only [Act.put,getElem_toArray,getElem_cons_zero,getElem_cons_succ,setIfInBounds_toArray,set_cons_zero,set_cons_succ];refine wpAnyH_take (i:=2) (v:=?_) rfl (by kernel_rfl) (by kernel_rfl) (by kernel_rfl) (fun _ _ _ h=>h) (Or.inl ⟨by rfl,?_⟩) (by assumption) ?_
    rotate_left
    ·intro g c
     go_simp
     try with_reducible rfl
    simp only [Act.put,getElem_toArray,getElem_cons_zero,getElem_cons_succ,setIfInBounds_toArray,set_cons_zero,set_cons_succ];refine wpAnyH_take (i:=4) (v:=?_) rfl (by kernel_rfl) (by kernel_rfl) (by kernel_rfl) (fun _ _ _ h=>h) (Or.inl ⟨by rfl,?_⟩) (by assumption) ?_
    rotate_left
    ·intro g c
     go_simp
     try with_reducible rfl
    simp only [Act.put,getElem_toArray,getElem_cons_zero,getElem_cons_succ,setIfInBounds_toArray,set_cons_zero,set_cons_succ];refine wpAnyH_take (i:=5) (v:=?_) rfl (by kernel_rfl) (by kernel_rfl) (by kernel_rfl) (fun _ _ _ h=>h) (Or.inl ⟨by rfl,?_⟩) (by assumption) ?_
    rotate_left
    ·intro g c
     go_simp
     try with_reducible rfl
    simp only [Act.put,getElem_toArray,getElem_cons_zero,getElem_cons_succ,setIfInBounds_toArray,set_cons_zero,set_cons_succ];refine wpAnyH_take (i:=6) (v:=?_) rfl (by kernel_rfl) (by kernel_rfl) (by kernel_rfl) (fun _ _ _ h=>h) (Or.inl ⟨by rfl,?_⟩) (by assumption) ?_
    rotate_left
    ·intro g c
     go_simp
     try with_reducible rfl
    simp only [Act.put,getElem_toArray,getElem_cons_zero,getElem_cons_succ,setIfInBounds_toArray,set_cons_zero,set_cons_succ];refine wpAnyH_take (i:=7) (v:=?_) rfl (by kernel_rfl) (by kernel_rfl) (by kernel_rfl) (fun _ _ _ h=>h) (Or.inl ⟨by rfl,?_⟩) (by assumption) ?_
    rotate_left
    ·intro g c
     go_simp
     try with_reducible rfl
    simp only [Act.put,getElem_toArray,getElem_cons_zero,getElem_cons_succ,setIfInBounds_toArray,set_cons_zero,set_cons_succ];refine wpAnyH_take (i:=8) (v:=?_) rfl (by kernel_rfl) (by kernel_rfl) (by kernel_rfl) (fun _ _ _ h=>h) (Or.inl ⟨by rfl,?_⟩) (by assumption) ?_
    rotate_left
    ·intro g c
     go_simp
     try with_reducible rfl
    simp only [Act.put,getElem_toArray,getElem_cons_zero,getElem_cons_succ,setIfInBounds_toArray,set_cons_zero,set_cons_succ];refine wpAnyH_take (i:=9) (v:=?_) rfl (by kernel_rfl) (by kernel_rfl) (by kernel_rfl) (fun _ _ _ h=>h) (Or.inl ⟨by rfl,?_⟩) (by assumption) ?_
    rotate_left
    ·intro g c
     go_simp
     try with_reducible rfl
    simp only [Act.put,getElem_toArray,getElem_cons_zero,getElem_cons_succ,setIfInBounds_toArray,set_cons_zero,set_cons_succ];refine wpAnyH_take (i:=10) (v:=?_) rfl (by kernel_rfl) (by kernel_rfl) (by kernel_rfl) (fun _ _ _ h=>h) (Or.inl ⟨by rfl,?_⟩) (by assumption) ?_
    rotate_left
    ·intro g c
     go_simp
     try with_reducible rfl
    simp only [Act.put,getElem_toArray,getElem_cons_zero,getElem_cons_succ,setIfInBounds_toArray,set_cons_zero,set_cons_succ];refine wpAnyH_take (i:=11) (v:=?_) rfl (by kernel_rfl) (by kernel_rfl) (by kernel_rfl) (fun _ _ _ h=>h) (Or.inl ⟨by rfl,?_⟩) (by assumption) ?_
    rotate_left
    ·intro g c
     go_simp
     try with_reducible rfl
    simp only [Act.put,getElem_toArray,getElem_cons_zero,getElem_cons_succ,setIfInBounds_toArray,set_cons_zero,set_cons_succ];refine wpAnyH_take (i:=12) (v:=?_) rfl (by kernel_rfl) (by kernel_rfl) (by kernel_rfl) (fun _ _ _ h=>h) (Or.inl ⟨by rfl,?_⟩) (by assumption) ?_
    rotate_left
    ·intro g c
     go_simp
     try with_reducible rfl
    simp only [Act.put,getElem_toArray,getElem_cons_zero,getElem_cons_succ,setIfInBounds_toArray,set_cons_zero,set_cons_succ];refine wpAnyH_ready (rs:=[3,13]) (by kernel_rfl) (by simp) ?_
    refine AllReadyH.cons rfl (fun t a=>?_) (AllReadyH.cons rfl (fun t a=>?_) AllReadyH.nil)
    ·go_simp
     refine a.o _ _ (by exact z) (fun D=>?_)
     clear a t;refine wpAnyH_ready (rs:=[13]) (by kernel_rfl) (by simp) ?_
     refine AllReadyH.cons rfl (fun t a=>?_) AllReadyH.nil
     go_simp
     refine a.o _ _ (by exact z) (fun D=>?_)
     clear a t;refine wpAnyH_take (i:=14) (v:=?_) rfl (by kernel_rfl) (by kernel_rfl) (by kernel_rfl) (fun _ _ _ h=>h) (Or.inl ⟨by rfl,?_⟩) (by assumption) ?_
     rotate_left
     ·intro g c
      go_simp
      try with_reducible rfl
     simp only [Act.put,getElem_toArray,getElem_cons_zero,getElem_cons_succ,setIfInBounds_toArray,set_cons_zero,set_cons_succ];refine wpAnyH_ready (rs:=[15]) (by kernel_rfl) (by simp) ?_
     refine AllReadyH.cons rfl (fun t a=>?_) AllReadyH.nil
     go_simp
     go_wp2_with((go_at_call 72;refine(ag.o _).mono ?_;rintro e w5 ⟨rfl,rfl⟩))
     refine a.o _ _ (by exact z) (fun D=>?_)
     clear a t;refine wpAnyH_take (i:=16) (v:=?_) rfl (by kernel_rfl) (by kernel_rfl) (by kernel_rfl) (fun _ _ _ h=>h) (Or.inl ⟨by rfl,?_⟩) (by assumption) ?_
     rotate_left
     ·intro g c
      go_simp
      try with_reducible rfl
     simp only [Act.put,getElem_toArray,getElem_cons_zero,getElem_cons_succ,setIfInBounds_toArray,set_cons_zero,set_cons_succ];refine wpAnyH_take (i:=17) (v:=?_) rfl (by kernel_rfl) (by kernel_rfl) (by kernel_rfl) (fun _ _ _ h=>h) (Or.inl ⟨by rfl,?_⟩) (by assumption) ?_
     rotate_left
     ·intro g c
      go_simp
      try with_reducible rfl
     simp only [Act.put,getElem_toArray,getElem_cons_zero,getElem_cons_succ,setIfInBounds_toArray,set_cons_zero,set_cons_succ];refine wpAnyH_take (i:=18) (v:=?_) rfl (by kernel_rfl) (by kernel_rfl) (by kernel_rfl) (fun _ _ _ h=>h) (Or.inl ⟨by rfl,?_⟩) (by assumption) ?_
     rotate_left
     ·intro g c
      go_simp
      try with_reducible rfl
     simp only [Act.put,getElem_toArray,getElem_cons_zero,getElem_cons_succ,setIfInBounds_toArray,set_cons_zero,set_cons_succ];refine wpAnyH_ready (rs:=[19]) (by kernel_rfl) (by simp) ?_
     refine AllReadyH.cons rfl (fun t a=>?_) AllReadyH.nil
     go_simp
     refine a.o _ _ (by exact ad.o) (fun D=>?_)
     clear a t;refine wpAnyH_done (by kernel_rfl) ?_ _
     go_wp2_with fail
     go_meet
     exact ZZ ⟨1,rfl⟩
    ·go_simp
     refine a.o _ _ (by exact z) (fun D=>?_)
     clear a t;refine wpAnyH_take (i:=14) (v:=?_) rfl (by kernel_rfl) (by kernel_rfl) (by kernel_rfl) (fun _ _ _ h=>h) (Or.inl ⟨by rfl,?_⟩) (by assumption) ?_
     rotate_left
     ·intro g c
      go_simp
      try with_reducible rfl
     simp only [Act.put,getElem_toArray,getElem_cons_zero,getElem_cons_succ,setIfInBounds_toArray,set_cons_zero,set_cons_succ];refine wpAnyH_ready (rs:=[3,15]) (by kernel_rfl) (by simp) ?_
     refine AllReadyH.cons rfl (fun t a=>?_) (AllReadyH.cons rfl (fun t a=>?_) AllReadyH.nil)
     ·go_simp
      refine a.o _ _ (by exact z) (fun D=>?_)
      clear a t;refine wpAnyH_ready (rs:=[15]) (by kernel_rfl) (by simp) ?_
      refine AllReadyH.cons rfl (fun t a=>?_) AllReadyH.nil
      go_simp
      go_wp2_with((go_at_call 72;refine(ag.o _).mono ?_;rintro e w5 ⟨rfl,rfl⟩))
      refine a.o _ _ (by exact z) (fun D=>?_)
      clear a t;refine wpAnyH_take (i:=16) (v:=?_) rfl (by kernel_rfl) (by kernel_rfl) (by kernel_rfl) (fun _ _ _ h=>h) (Or.inl ⟨by rfl,?_⟩) (by assumption) ?_
      rotate_left
      ·intro g c
       go_simp
       try with_reducible rfl
      simp only [Act.put,getElem_toArray,getElem_cons_zero,getElem_cons_succ,setIfInBounds_toArray,set_cons_zero,set_cons_succ];refine wpAnyH_take (i:=17) (v:=?_) rfl (by kernel_rfl) (by kernel_rfl) (by kernel_rfl) (fun _ _ _ h=>h) (Or.inl ⟨by rfl,?_⟩) (by assumption) ?_
      rotate_left
      ·intro g c
       go_simp
       try with_reducible rfl
      simp only [Act.put,getElem_toArray,getElem_cons_zero,getElem_cons_succ,setIfInBounds_toArray,set_cons_zero,set_cons_succ];refine wpAnyH_take (i:=18) (v:=?_) rfl (by kernel_rfl) (by kernel_rfl) (by kernel_rfl) (fun _ _ _ h=>h) (Or.inl ⟨by rfl,?_⟩) (by assumption) ?_
      rotate_left
      ·intro g c
       go_simp
       try with_reducible rfl
      simp only [Act.put,getElem_toArray,getElem_cons_zero,getElem_cons_succ,setIfInBounds_toArray,set_cons_zero,set_cons_succ];refine wpAnyH_ready (rs:=[19]) (by kernel_rfl) (by simp) ?_
      refine AllReadyH.cons rfl (fun t a=>?_) AllReadyH.nil
      go_simp
      refine a.o _ _ (by exact ad.o) (fun D=>?_)
      clear a t;refine wpAnyH_done (by kernel_rfl) ?_ _
      go_wp2_with fail
      go_meet
      exact ZZ ⟨1,rfl⟩
     ·go_simp
      go_wp2_with((go_at_call 72;refine(ag.o _).mono ?_;rintro e w5 ⟨rfl,rfl⟩))
      refine a.o _ _ (by exact z) (fun D=>?_)
      clear a t;refine wpAnyH_ready (rs:=[3]) (by kernel_rfl) (by simp) ?_
      refine AllReadyH.cons rfl (fun t a=>?_) AllReadyH.nil
      go_simp
      refine a.o _ _ (by exact z) (fun D=>?_)
      clear a t;refine wpAnyH_take (i:=16) (v:=?_) rfl (by kernel_rfl) (by kernel_rfl) (by kernel_rfl) (fun _ _ _ h=>h) (Or.inl ⟨by rfl,?_⟩) (by assumption) ?_
      rotate_left
      ·intro g c
       go_simp
       try with_reducible rfl
      simp only [Act.put,getElem_toArray,getElem_cons_zero,getElem_cons_succ,setIfInBounds_toArray,set_cons_zero,set_cons_succ];refine wpAnyH_take (i:=17) (v:=?_) rfl (by kernel_rfl) (by kernel_rfl) (by kernel_rfl) (fun _ _ _ h=>h) (Or.inl ⟨by rfl,?_⟩) (by assumption) ?_
      rotate_left
      ·intro g c
       go_simp
       try with_reducible rfl
      simp only [Act.put,getElem_toArray,getElem_cons_zero,getElem_cons_succ,setIfInBounds_toArray,set_cons_zero,set_cons_succ];refine wpAnyH_take (i:=18) (v:=?_) rfl (by kernel_rfl) (by kernel_rfl) (by kernel_rfl) (fun _ _ _ h=>h) (Or.inl ⟨by rfl,?_⟩) (by assumption) ?_
      rotate_left
      ·intro g c
       go_simp
       try with_reducible rfl
      simp only [Act.put,getElem_toArray,getElem_cons_zero,getElem_cons_succ,setIfInBounds_toArray,set_cons_zero,set_cons_succ];refine wpAnyH_ready (rs:=[19]) (by kernel_rfl) (by simp) ?_
      refine AllReadyH.cons rfl (fun t a=>?_) AllReadyH.nil
      go_simp
      refine a.o _ _ (by exact ad.o) (fun D=>?_)
      clear a t;refine wpAnyH_done (by kernel_rfl) ?_ _
      go_wp2_with fail
      go_meet
      exact ZZ ⟨1,rfl⟩
   case rest=>
    obtain⟨q7,ab⟩:=hcut.o;have O:Hid (Bk 117 C P #[.slice ao Y cap,.int .i64 (y:Int)]):=ZZ (by rw[ab];exact ap.o.set 1 _)
    have an:Hid (Bk 69 C p (ZiC B DI (U:Int))):=ZZ (by rw[ab];exact aP.o.other P 1 _ am.o)
    have aa:=ZZ ab;have z:C.cell? ⟨P,0,none⟩=some (.slice ao Y cap):=(O.o.cell 0 rfl).1;have y0:C.frozen? ⟨P,0,none⟩=false:=(O.o.cell 0 rfl).2;have g1:C.cell? ⟨P,1,none⟩=some (.int .i64 (y:Int)):=(O.o.cell 1 rfl).1;clear ab hcut;obtain⟨W7,aw⟩:∃ W7,W7=C:=⟨_,rfl⟩;rw[<-aw] at O an aa z y0 g1 ⊢;clear aw
    go_upto_region 8 with fail
    go_cut[] (fun wd=>Hid (∃ q,wd=(W7.setCell ⟨P,0,none⟩ (.slice ao y cap)).drewN q))
    case first=>
     go_region
     all_goals
      go_wp2_with fail
      go_meet
      exact ZZ ⟨1,rfl⟩
    case rest=>
     obtain⟨q8,V⟩:=hcut.o;have aH:Hid (Bk 117 C P #[.slice ao y cap,.int .i64 (y:Int)]):=ZZ (by rw[V];exact O.o.set 0 _)
     have al:Hid (Bk 69 C p (ZiC B DI (U:Int))):=ZZ (by rw[V];exact an.o.other P 0 _ am.o)
     have R:=ZZ V;have K:C.cell? ⟨P,1,none⟩=some (.int .i64 (y:Int)):=(aH.o.cell 1 rfl).1;have Q:C.cell? ⟨p,1,none⟩=some (.int .i64 (U:Int)):=(al.o.cell 1 rfl).1;have h3:C.frozen? ⟨p,1,none⟩=false:=(al.o.cell 1 rfl).2;clear V hcut z y0 g1;obtain⟨W8,ak⟩:∃ W8,W8=C:=⟨_,rfl⟩;rw[<-ak] at R K Q h3 ⊢;clear ak
     go_upto_region 9 with fail
     go_region
     all_goals
      go_wp2;go_roundw
      case rel=>
       refine⟨i+1,by go_num,by have:=ay.o;omega,_,ZZ (aG.o.keep (w':=(W8.setCell ⟨p,1,none⟩ (.int .i64 ((U:Int)+(y:Int)))).drew) (fun k _=>?_) ?_),ZZ ?_⟩
       ·rw[R.o,aa.o]
        rfl
       ·rw[R.o,aa.o]
        exact Nat.le_refl _
       ·rw[R.o,aa.o]
        exact⟨M.o.os,M.o.tape,M.o.output,M.o.size,M.o.block⟩
      case measure=>have:=ay.o;simp[intOf];omega
theorem ZwJ {F:Nat->Prop} {p:Nat} {d:Dk} {N T:Nat} (names:Int) (m:Value) (keep:List Int) (w:World) (h:Dsk F w p d N T) (z:N<=1000000) (P:T<=1000000000) (A:RdI w m keep) (u:keep=[]∨∀ k,m.ownBlock=some k->¬ F k) (H:keep.length<=1000000000):
 Calls prog 12 #[ptr p,.int .i64 names,m] w fun e w'=>e=.returned (.tuple #[])∧Dsk F w' p (Zco d names keep) N T∧Zap F w w':=by
 obtain⟨L,h,b,a,y,C⟩:=h;have X:=ZZ b;have i:=ZZ a;have G:=ZZ (And.intro y C);have W:=ZZ A;have t:=ZZ u;have n:=ZZ (ZkM names w h b a z);obtain⟨K,j⟩:∃ K,K=Zcv names d.waits.length:=⟨_,rfl⟩;have f:=ZZ j;rw[<-j] at n;have O:Hid (OkD { d with kept:=ZeF d K,waits:=[] }):=ZZ (ZjN (fs:=d.files) (b.dirs K) b.keep)
 have J:Hid (Bnd { d with kept:=ZeF d K,waits:=[] } N T):=ZZ ⟨a.files,by have g:=Zey d K;have Y:=a.names;show(ZeF d K).length+0<=N;omega,a.bytes⟩
 have E:Hid (∀ q ∈ ZeF d K,q.2<d.files.length):=ZZ (fun q hq=>((b.dirs K).may q hq).2)
 obtain⟨ka,kc,rfl,-⟩:=A;clear h b a y C u j
 go_enter func12,ntmps12
 go_wp2_with fail
 refine n.o.mono ?_;rintro e M ⟨rfl,D,c⟩;have R:=ZZ (ZnZ _ keep M D rfl O.o J.o z P (W.o.onlyE c t.o) t.o H);have S:=ZZ c;clear D c
 go_wp2_with fail
 refine R.o.mono ?_;rintro e W2 ⟨rfl,⟨Q,l⟩,v⟩;have B:=ZZ l;have V:=ZZ (S.o.trans v (fun _ _ U=>U))
 obtain⟨⟨-,-,-,-,-,c5⟩,-,-,-,f5⟩:=l.cells;clear l v;go_wp2;go_end0;refine⟨rfl,⟨Q,?_,X.o.crash names keep,⟨?_,?_,?_⟩,G.o.1,⟨by show(-9223372036854775808:Int)<=-1;omega,by show(-1:Int)<=9223372036854775807;omega⟩⟩,V.o.setCell 5 (fun _=>B.o.fh) _⟩
 ·have g:=B.o.setHead 5 (.int .i64 (-1)) (d':=Zco d names keep) (u':=(ZdE (Zaw keep (ZeF d K) 0 d.files) (ZeF d K):Nat)) (by rw[f.o];exact⟨rfl,rfl,rfl⟩) rfl
  have Z:ZcL (Zco d names keep)=ZdE (Zaw keep (ZeF d K) 0 d.files) (ZeF d K):=by rw[f.o];rfl
  rw[Z];exact g
 ·have:=i.o.files
  show(Zaw keep _ 0 d.files).length<=N;rw[Zci];exact this
 ·have g:=Zey d (Zcv names d.waits.length)
  have Y:=i.o.names;show(ZeF d (Zcv names d.waits.length)).length+0<=N;omega
 ·intro x I
  refine ZfX keep (ZeF d K) 0 d.files i.o.bytes E.o x ?_;rw[f.o];exact I
theorem ZwK (v:Value) (l:List UInt8) (w:World) (x:Rd w v l) (N:l.length<=70368744177664):
 Calls prog 183 #[v] w fun e w'=>∃ v',e=.returned v'∧Own w' w.heap.size v' l∧Below w.heap.size w w':=by
 obtain⟨p,q,D,t,C⟩:=info_parts ZnJ;have A:=ZZ x;obtain⟨ao,cap,rfl,L,K,y,m⟩:=x;have G:=ZZ m;have j:=ZZ y;clear m y
 go_enter func183,ntmps183
 go_wp2_with(at_make;refine wpList_make_own _ rfl _ _ 53 rfl w.heap.size 5 p (.int .u8 0) 1 underlying53 q D t _ _ _ (l.length+10) rfl rfl (by omega) (by rw[C];omega) (by unfold maxLen;omega) zL ?_)
 intro H g b;have a:Below w.heap.size w H:=(Below.refl _ _).grown b zL (fun k c=>by cases c)
 obtain⟨I,M,d,_,_,_,n⟩:=A.o.below a zL;simp only [Value.slice.injEq] at d;obtain⟨rfl,_,rfl⟩:=d;have z:=ZZ n;have h:=ZZ a;have J:=ZZ b;clear n a b G
 go_wp2_with(at_builtin;refine wpList_append_fits_any _ rfl _ _ 53 rfl w.heap.size 5 p 1 underlying53 q t w.heap.size 0 (l.length+10) [] rfl g ao l.length cap (Lib.byteCells l) rfl (by rw[Zbi,Nat.mul_one]) (fun e=>⟨by have:=j.o e;omega,j.o e⟩) (Rd.cells z.o) (ZdH l) (by omega) ?_)
 intro F u i;have f:Below w.heap.size w F:=h.o.grown i (by have:=h.o.size;omega) (fun k c=>by simp at c;omega)
 have B:=ZZ f;have E:=ZZ u;clear f i u g;go_wp2;go_ret;exact⟨_,rfl,Own.mk' E.o (by simp) (by simp),B.o⟩
theorem ZCn (y:Nat):bits .or .u8 ((y:Int) % 256) 128=(y:Int) % 128+128:=by
 rw[Lib.u8_or128_any _ (by omega) (by omega)]
 omega
theorem Own.snoc {w:World} {B:Nat} {v:Value} (l b:List UInt8) (a:Nat) (e:a<256) {n:Nat} {x:Int} (h:w.ownsRow B 5 1 v n (Lib.byteCells (l++b)++[Value.int .u8 x])) (d:n=l.length+b.length+1) (c:x=(a:Int)):Own w B v (l++(b++[a.toUInt8])):=by
 subst c;refine Own.mk' h (by rw[d];simp;omega) ?_
 rw[<-List.append_assoc,Lib.byteCells_snoc _ e]
theorem ZhK (v:Value) (l:List UInt8) (u:Nat) (w:World) (J:Rd w v l) (O:l.length<=70368744177664) (b:u<18446744073709551616):
 Calls prog 184 #[v,.int .u64 (u:Int)] w fun e w'=>∃ v',e=.returned v'∧Own w' w.heap.size v' (l++Lib.uvarint u)∧Below w.heap.size w w':=by
 obtain⟨B,D,I,E,G⟩:=info_parts ZnJ;have R:=Lib.uvarint_length64 b;have F:=ZZ (ZwK v l w J O);have V:=ZZ b;clear J b
 go_enter func184,ntmps184
 go_wp2_with fail
 refine F.o.mono ?_;rintro e U ⟨Y,rfl,C,A⟩;have K:=ZZ C;have Q:=ZZ A;clear C A F;go_wp2
 go_loopw[1,5] (fun p P i=>∃ (y:Nat) (c:List UInt8),p=.int .u64 (y:Int)∧Hid (y<=u∧Lib.uvarint u=c++Lib.uvarint y)∧Hid (Own i w.heap.size P (l++c))∧Hid (Below w.heap.size w i))
  (fun p _ _=>(intOf p).toNat)
 case atStart=>exact⟨u,[],rfl,⟨Nat.le_refl _,rfl⟩,by rw[List.append_nil];exact K.o,Q.o⟩
 case round=>
  obtain⟨y,c,rfl,m,h,q⟩:=hrel
  have S:c.length+(Lib.uvarint y).length<=10:=by
   have N:=congrArg List.length m.o.2;rw[List.length_append] at N;omega
  have W:=Lib.uvarint_pos y;have X:=q.o.size;by_cases L:128<=y
  ·have T:=ZCn y
   go_wp2_with(at_builtin;refine wpList_append_own _ rfl _ _ 53 rfl w.heap.size 5 B (.int .u8 0) 1 1 underlying53 D I E G rfl (by decide) _ _ _ rfl (World.ownsRow.alloc h.o _) ⟨i.heap.size,0,none⟩ 1 1 [Value.int .u8 ((y % 128+128:Nat):Int)] rfl rfl ?c1 ?c2 ?c3 ?c4 ?c5 ?_)
   case c1=>
    intro j u a
    match j,a with
    | 0,a=>simp at a;subst a;simp[Addr.add]
   case c2=>intro u b;simp at b;subst b;rfl
   case c3=>unfold maxLen;simp;omega
   case c4=>simp;omega
   case c5=>simp;omega
   intro v' z d g _;have f:Below w.heap.size w z:=(q.o.alloc (by omega) _).grown g (by simp;omega) (fun k x=>(World.ownsRow.lt h.o k x).1)
   have t:=ZZ (Own.snoc l c (y % 128+128) (by omega) d (by simp) (by omega))
   have n:=ZZ f;clear d f g;go_wp2;go_roundw
   case rel=>exact⟨y / 128,c++[(y % 128+128).toUInt8],by go_num,⟨by have:=m.o.1;omega,by rw[m.o.2,Lib.uvarint_big L];simp⟩,t,n⟩
   case measure=>simp[intOf];omega
  ·have H:Lib.uvarint y=[y.toUInt8]:=Lib.uvarint_small (by omega)
   have M:=ZZ H;clear H
   go_wp2_with(at_builtin;refine wpList_append_own _ rfl _ _ 53 rfl w.heap.size 5 B (.int .u8 0) 1 1 underlying53 D I E G rfl (by decide) _ _ _ rfl (World.ownsRow.alloc h.o _) ⟨i.heap.size,0,none⟩ 1 1 [Value.int .u8 (y:Int)] rfl rfl ?c1 ?c2 ?c3 ?c4 ?c5 ?_)
   case c1=>
    intro j u a
    match j,a with
    | 0,a=>simp at a;subst a;simp[Addr.add]
   case c2=>intro u b;simp at b;subst b;rfl
   case c3=>unfold maxLen;simp;omega
   case c4=>simp;omega
   case c5=>simp;omega
   intro v' z d g _;have f:Below w.heap.size w z:=(q.o.alloc (by omega) _).grown g (by simp;omega) (fun k x=>(World.ownsRow.lt h.o k x).1)
   have t:=ZZ (Own.snoc l c y (by omega) d (by simp) rfl)
   have n:=ZZ f;clear d f g;go_wp2;go_ret;refine⟨v',rfl,?_,n.o⟩;rw[m.o.2,M.o];exact t.o
def Zuw (l:List UInt8) (n:Int):List UInt8:=if 0<=n∧n<4611686018427387904 then l++Lib.uvarint n.toNat else l
theorem ZeN (v:Value) (l:List UInt8) (n:Int) (w:World) (d:Rd w v l) (m:l.length<=70368744177664):
 Calls prog 132 #[v,.int .i64 n] w fun e w'=>∃ v',e=.returned v'∧Own w' w.heap.size v' (Zuw l n)∧Below w.heap.size w w':=by
 by_cases h:0<=n∧n<4611686018427387904
 ·obtain⟨g,p⟩:=h
  have i:Hid (Zuw l n=l++Lib.uvarint n.toNat):=if_pos ⟨g,p⟩;have a:=ZZ (ZhK v l n.toNat w d m (by omega))
  have k:((n.toNat:Nat):Int)=n:=Int.toNat_of_nonneg g;rw[k] at a;clear k d
  go_enter func132,ntmps132
  go_wp2_with fail
  refine a.o.mono ?_;rintro e w' ⟨v',rfl,b,c⟩;have j:=ZZ b;have f:=ZZ c;clear b c a;go_wp2;go_ret;exact⟨v',rfl,by rw[i.o];exact j.o,f.o⟩
 ·have i:Hid (Zuw l n=l):=if_neg h
  have a:=ZZ (ZwK v l w d m);clear d;by_cases g:n<0
  all_goals
   go_enter func132,ntmps132
   go_wp2_with fail
   refine a.o.mono ?_;rintro e w' ⟨v',rfl,b,c⟩;have j:=ZZ b;have f:=ZZ c;clear b c a;go_wp2;go_ret;exact⟨v',rfl,by rw[i.o];exact j.o,f.o⟩
theorem Zck (v:Value) (l:List UInt8) (n:Int) (w:World) (i:Rd w v l) (m:l.length<=70368744177664) (c:-9223372036854775808<=n) (b:n<=9223372036854775807):
 Calls prog 142 #[v,.int .i64 n] w fun e w'=>∃ v',e=.returned v'∧Own w' w.heap.size v' (l++a.uvarint (a.zigzag n))∧Below w.heap.size w w':=by
 have f:=ZZ (ZhK v l (a.zigzag n) w i m (a.zigzag_lt c b));have h:=ZZ (ZAt n w c b);generalize a.zigzag n=z at *;clear i c b
 go_enter func142,ntmps142
 go_wp2_with fail
 refine h.o.mono ?_;rintro e w' ⟨rfl,rfl⟩
 go_wp2_with fail
 refine f.o.mono ?_;rintro e w' ⟨v',rfl,d,g⟩;have k:=ZZ d;have j:=ZZ g;clear d g f h;go_wp2;go_ret;exact⟨v',rfl,k.o,j.o⟩
def Cnt (l:List UInt8) (c:Nat):Prop:=
 (c=0∧∀ j,j<10->j<l.length->128<=(l.getD j 0).toNat)∨
 (1<=c∧c<=10∧c<=l.length∧(∀ j,j+1<c->128<=(l.getD j 0).toNat)∧(l.getD (c-1) 0).toNat<128)
theorem ZwL (v:Value) (l:List UInt8) (w:World) (t:Rd w v l):
 Calls prog 222 #[v] w fun e w'=>∃ c:Nat,e=.returned (.int .i64 (c:Int))∧Cnt l c∧w'=w:=by
 obtain⟨ao,cap,rfl,E,q,u,a⟩:=t;clear u;have B:(l.length:Int)<=9223372036854775807:=by unfold maxLen at q;omega
 by_cases C:(l.length:Int)<=10
 all_goals
  go_enter func222,ntmps222
  go_wp2
  go_loop [7] (fun i=>∃ k:Nat,i=.int .i64 k∧k<=10∧k<=l.length∧Hid (∀ j,j<k->128<=(l.getD j 0).toNat)) (fun i=>10-(intOf i).toNat)
  case atStart=>exact⟨0,rfl,by omega,by omega,fun j m=>by omega⟩
  case round=>
   obtain⟨k,rfl,A,x,d⟩:=hrel;by_cases h:k<10∧k<l.length
   ·obtain⟨h,n⟩:=h
    rcases a with a | ⟨b,off,rfl,hc⟩
    ·subst a;simp at n
    ·have p:=hc k n
     clear hc;obtain⟨y,f⟩:∃ y,y=(l.getD k 0).toNat:=⟨_,rfl⟩;rw[<-f] at p;have g:Hid (y=(l.getD k 0).toNat):=f;clear f;by_cases F:(y:Int)<128
     ·go_wp2
      go_ret;refine⟨k+1,Zfi (by omega),.inr ⟨by omega,by omega,by omega,fun j m=>d.o j (by omega),?_⟩,rfl⟩
      rw[Nat.add_sub_cancel,<-g.o];omega
     ·go_wp2
      go_round
      case rel=>
       refine⟨k+1,by go_num,by omega,by omega,fun j m=>?_⟩
       by_cases e:j=k
       ·rw[e,<-g.o];omega
       ·exact d.o j (by omega)
      case measure=>simp[intOf];omega
   ·go_wp2
    go_ret;exact⟨0,rfl,.inl ⟨rfl,fun j z D=>d.o j (by omega)⟩,rfl⟩
theorem Zux {l:List UInt8} (h:Cnt l 0):Zah l=(0,0):=by
 rcases h with ⟨_,h⟩ | h
 ·unfold Zah
  rw[ZnH 10 l h]
 ·omega
theorem Zoa {l:List UInt8} {c:Nat} (h:Cnt l (c+1)):c<10∧c<l.length∧(l.getD c 0).toNat<128∧
 dec 10 l=if 0<c∧(l.getD c 0).toNat=0 then none else some (val (l.take (c+1)),c+1):=by
 rcases h with h | ⟨h1,h2,h3,h4,h5⟩
 ·omega
 ·have a:(l.getD c 0).toNat<128:=by simpa using h5
  exact⟨by omega,by omega,a,Zwf c 10 l (by omega) (by omega) (fun j b=>h4 j (by omega)) a⟩
theorem Zha (l:List UInt8) (k:Nat) (h:k<=l.length):val (l.take k)<128 ^ k:=by
 have:=ZAi (l.take k)
 rwa [length_take,Nat.min_eq_left h] at this
theorem ZwM {l:List UInt8} (h:Cnt l 10) (j:(l.getD 9 0).toNat≠1):Zah l=(0,0):=by
 obtain⟨k,c,d,f⟩:=Zoa h;unfold Zah;rw[f];by_cases b:(l.getD 9 0).toNat=0
 ·rw[if_pos ⟨by omega,b⟩]
 ·rw[if_neg (fun e=>b e.2)]
  have a:=Zhs l 9 c;have i:(l.getD 9 0).toNat % 128=(l.getD 9 0).toNat:=Nat.mod_eq_of_lt d;rw[i] at a;have g:128 ^ 9=9223372036854775808:=by decide
  rw[g] at a;have:¬ val (l.take (9+1))<18446744073709551616:=by omega
  simp only [this,if_false]
theorem Zrw {l:List UInt8} {c:Nat} (h:Cnt l (c+1)) (b:0<c) (a:(l.getD c 0).toNat=0):Zah l=(0,0):=by
 obtain⟨g,e,f,d⟩:=Zoa h;unfold Zah;rw[d,if_pos ⟨b,a⟩]
theorem Zuy {l:List UInt8} {c:Nat} (h:Cnt l (c+1)) (j:c=9->(l.getD c 0).toNat=1) (g:0<c->(l.getD c 0).toNat≠0):
 Zah l=(val (l.take (c+1)),c+1)∧val (l.take (c+1))<18446744073709551616:=by
 obtain⟨p,i,n,k⟩:=Zoa h
 have d:val (l.take (c+1))<18446744073709551616:=by
  by_cases e:c=9
  ·subst e
   have a:=Zhs l 9 i;have f:=Zha l 9 (by omega)
   rw[j rfl] at a;have b:128 ^ 9=9223372036854775808:=by decide
   rw[b] at a f;omega
  ·have a:=Zha l (c+1) (by omega)
   have m:128 ^ (c+1)<=128 ^ 9:=Nat.pow_le_pow_right (by decide) (by omega)
   have b:128 ^ 9=9223372036854775808:=by decide
   omega
 refine⟨?_,d⟩;unfold Zah;rw[k,if_neg (fun e=>g e.1 e.2)]
 simp only [d,if_true]
theorem ZAl (k y x:Nat) (f:k<64) (b:y<2 ^ k) (c:x*2 ^ k<18446744073709551616):
 bits .or .u64 (y:Int) (IntKind.u64.wrap ((x:Int)*2 ^ k))=((y+x*2 ^ k:Nat):Int):=by
 have e:((x:Int)*2 ^ k)=((x*2 ^ k:Nat):Int):=by simp
 have a:((2 ^ k:Nat):Int)=(2:Int) ^ k:=by simp
 have d:(2:Nat) ^ k<=2 ^ 64:=Nat.pow_le_pow_right (by decide) (by omega)
 rw[e,wraps_u64 _ (by omega) (by omega),bits_join_low .u64 64 (by decide) wraps_u64 k (y:Int) ((x*2 ^ k:Nat):Int) (by omega) (by rw[<-a];omega) (by omega) (by omega) (by rw[<-a];simp) (by omega)]
 omega
theorem ZAJ (l:List UInt8) (k:Nat) (h:k<l.length) (j:k<10) (d:k=9->(l.getD k 0).toNat % 128<=1):
 bits .or .u64 ((val (l.take k):Nat):Int) (IntKind.u64.wrap (((l.getD k 0).toNat:Int) % 128*2 ^ (7*k)))=((val (l.take (k+1)):Nat):Int):=by
 have a:=Zha l k (by omega)
 rw[Zhs l k h,<-pow7];rw[<-pow7] at a;have e:(((l.getD k 0).toNat:Int) % 128)=(((l.getD k 0).toNat % 128:Nat):Int):=by omega
 rw[e];refine ZAl (7*k) _ _ (by omega) a ?_
 by_cases b:k=9
 ·have:=d b
  subst b;have f:2 ^ (7*9)=9223372036854775808:=by decide
  rw[f];omega
 ·have c:2 ^ (7*k)<=2 ^ 56:=Nat.pow_le_pow_right (by decide) (by omega)
  have g:(l.getD k 0).toNat % 128<=127:=by omega
  have:=Nat.mul_le_mul g c;have i:127*2 ^ 56<18446744073709551616:=by decide
  omega
theorem ZmU (v:Value) (l:List UInt8) (w:World) (E:Rd w v l):
 Calls prog 207 #[v] w fun e w'=>e=.returned (.tuple #[.int .u64 ((Zah l).1:Nat),.int .i64 ((Zah l).2:Nat)])∧w'=w:=by
 have B:=ZwL v l w E;obtain⟨ao,cap,rfl,Z,Y,S,n⟩:=E;clear S;have C:=ZZ B;clear B
 go_enter func207,ntmps207
 go_wp2_with fail
 refine C.o.mono ?_;rintro e w' ⟨c,rfl,a,rfl⟩;have a:Hid (Cnt l c):=a;clear C
 cases c with
 | zero=>
  have H:Hid (Zah l=(0,0)):=Zux a.o;go_wp2;go_ret2;exact⟨by rw[H.o];rfl,rfl⟩
 | succ c=>
  obtain⟨aa,D,T,P⟩:=Zoa a.o;clear P;rcases n with n | ⟨b,off,rfl,hcell⟩
  ·subst n;simp at D
  have A:=hcell c D;obtain⟨y,p⟩:∃ y,y=(l.getD c 0).toNat:=⟨_,rfl⟩;rw[<-p] at A T;have d:Hid (y=(l.getD c 0).toNat):=p;have L:=ZZ hcell;clear p hcell;by_cases m:(c=9∧y≠1)∨(0<c∧y=0)
  ·have H:Hid (Zah l=(0,0)):=by
    rcases m with ⟨f,I⟩ | ⟨M,Q⟩
    ·subst f
     exact ZwM a.o (by rw[<-d.o];exact I)
    ·exact Zrw a.o M (by rw[<-d.o];exact Q)
   by_cases f:c=9
   ·have j:(((c:Int)+1) == 10)=true:=beq_iff_eq.2 (by omega)
    have N:((y:Int) != 1)=true:=by rw[bne_iff_ne];omega
    clear m f;go_wp2;go_ret2;exact⟨by rw[H.o];rfl,rfl⟩
   ·have j:(((c:Int)+1) == 10)=false:=beq_eq_false_iff_ne.2 (by omega)
    have q:(1:Int)<(c:Int)+1:=by omega
    have F:((y:Int) == 0)=true:=beq_iff_eq.2 (by omega)
    clear m f;go_wp2;go_ret2;exact⟨by rw[H.o];rfl,rfl⟩
  ·have H:Hid (Zah l=(val (l.take (c+1)),c+1)∧val (l.take (c+1))<18446744073709551616):=Zuy a.o (fun h=>by rw[<-d.o];omega) (fun h=>by rw[<-d.o];omega)
   have hw3:(c=9∧y=1)∨c=0∨(0<c∧c<9∧y≠0):=by omega
   have O:Hid (c=9->y=1):=fun h=>by omega
   clear m;rcases hw3 with hw3 | hw3 | hw3
   all_goals
    first
     | (have j:(((c:Int)+1) == 10)=true:=beq_iff_eq.2 (by omega)
        have N:((y:Int) != 1)=false:=by rw[bne_eq_false_iff_eq];omega
        have q:(1:Int)<(c:Int)+1:=by omega
        have F:((y:Int) == 0)=false:=beq_eq_false_iff_ne.2 (by omega))
     | (have j:(((c:Int)+1) == 10)=false:=beq_eq_false_iff_ne.2 (by omega)
        have q:¬ (1:Int)<(c:Int)+1:=by omega)
     | (have j:(((c:Int)+1) == 10)=false:=beq_eq_false_iff_ne.2 (by omega)
        have q:(1:Int)<(c:Int)+1:=by omega
        have F:((y:Int) == 0)=false:=beq_eq_false_iff_ne.2 (by omega))
    clear hw3;have W:(((c:Int)+1) == 0)=false:=beq_eq_false_iff_ne.2 (by omega)
    go_wp2
    go_loop [5,35] (fun u i=>∃ k:Nat,k<=c+1∧i=.int .i64 k∧u=.int .u64 (val (l.take k):Nat)) (fun _ i=>c+1-(intOf i).toNat)
    case atStart=>exact⟨0,Nat.zero_le _,rfl,rfl⟩
    case round=>
     obtain⟨k,hk,rfl,rfl⟩:=hrel;by_cases V:k<c+1
     ·have J:=L.o k (by omega)
      obtain⟨x,g⟩:∃ x,x=(l.getD k 0).toNat:=⟨_,rfl⟩;rw[<-g] at J;have X:x<256:=by rw[g];exact UInt8.toNat_lt _
      have U:=ZZ g;clear g;obtain⟨z,t⟩:∃ z,z=val (l.take k):=⟨_,rfl⟩;rw[<-t];have R:=ZZ t;clear t A;go_wp2
      go_round
      case rel=>
       refine⟨k+1,by omega,by go_num,?_⟩
       rw[R.o,U.o,ZAJ l k (by omega) (by omega) (fun h=>?_)]
       have K:c=k:=by omega
       rw[<-K,<-d.o,O.o (by omega)]
       decide
      case measure=>simp[intOf];omega
     ·go_wp2
      go_ret2;have G:k=c+1:=by omega
      rw[H.o.1,G];exact⟨rfl,rfl⟩
theorem ZfY (v:Value) (l:List UInt8) (w:World) (g:Rd w v l):
 Calls prog 168 #[v] w fun e w'=>e=.returned (.tuple #[.int .i64 ((Zab l).1:Nat),.int .i64 ((Zab l).2:Nat)])∧w'=w:=by
 have a:=ZZ (ZmU v l w g);have H:Hid (Zab l=if(Zah l).1<4611686018427387904 then Zah l else(0,0)):=rfl
 generalize Zah l=d at *;obtain⟨u,k⟩:=d;obtain⟨U,b⟩:∃ U:Int,U=(u:Int):=⟨_,rfl⟩;simp only at a H;rw[<-b] at a;have i:0<=U:=by omega
 have c:=ZZ b;clear b;by_cases h:U<4611686018427387904
 ·go_enter func168,ntmps168
  go_wp2_with fail
  refine a.o.mono ?_;rintro e w' ⟨rfl,rfl⟩;go_wp2;go_ret2;have e:=H.o;have f:=c.o;rw[if_pos (by omega)] at e
  rw[e];exact⟨by rw[f];rfl,rfl⟩
 ·go_enter func168,ntmps168
  go_wp2_with fail
  refine a.o.mono ?_;rintro e w' ⟨rfl,rfl⟩;go_wp2;go_ret2;have e:=H.o;have f:=c.o;rw[if_neg (by omega)] at e
  rw[e];exact⟨rfl,rfl⟩
theorem ZcV (v:Value) (l:List UInt8) (w:World) (c:Rd w v l):
 Calls prog 201 #[v] w fun e w'=>e=.returned (.tuple #[.int .i64 (zag (Zah l).1),.int .i64 ((Zah l).2:Nat)])∧w'=w:=by
 have a:=ZZ (ZmU v l w c);have b:=ZnI l;have f:=ZcM l;generalize Zah l=d at *;obtain⟨u,k⟩:=d;simp only at a b f
 go_enter func201,ntmps201
 go_wp2_with fail
 refine a.o.mono ?_;rintro e w' ⟨rfl,rfl⟩
 go_wp2_with fail
 refine(ZAu u _ b).mono ?_;rintro e g ⟨rfl,rfl⟩;go_wp2;go_ret2;exact⟨rfl,rfl⟩
theorem Zjl:∀ (k v:Nat),Lib.leBytes (k+1) v=Lib.leBytes k v++[(v / 256 ^ k % 256).toUInt8]
 | 0,v=>by simp[Lib.leBytes]
 | k+1,v=>by
  have a:=Zjl k (v / 256);have e:v / 256 / 256 ^ k=v / 256 ^ (k+1):=by rw[Nat.div_div_eq_div_mul,Nat.pow_succ,Nat.mul_comm]
  rw[Lib.leBytes,a,e];simp[Lib.leBytes]
def ZkN (c k v:Nat):List UInt8:=Lib.leBytes k v++List.replicate (c-k) 0
theorem ZpD (c k v:Nat) (h:k<=c):(ZkN c k v).length=c:=by
 simp[ZkN,Lib.leBytes_length];omega
theorem ZwN (c k v:Nat) (h:k<c):(Lib.byteCells (ZkN c k v)).set k (.int .u8 ((v / 256 ^ k % 256:Nat):Int))=Lib.byteCells (ZkN c (k+1) v):=by
 have e:c-k=(c-(k+1))+1:=by omega
 unfold ZkN;rw[Zjl,e,List.replicate_succ];have a:(Lib.byteCells (Lib.leBytes k v)).length=k:=by rw[Zbi,Lib.leBytes_length]
 have b:((v / 256 ^ k % 256).toUInt8).toNat=v / 256 ^ k % 256:=Lib.toUInt8_toNat (Nat.mod_lt _ (by decide))
 simp only [Lib.byteCells,List.map_append,List.map_cons,List.map_nil,b] at a ⊢;rw[List.set_append_right _ _ (by omega),a]
 simp
theorem ZCo (k:Nat):2 ^ (8*k)=256 ^ k:=by rw[Nat.pow_mul]
theorem ZwO (v k:Nat):((v:Int) / 2 ^ (8*k)) % 256=((v / 256 ^ k % 256:Nat):Int):=by
 rw[<-ZCo];simp
theorem Zuz (v c:Nat) (w:World) (D:c<=8):
 Calls prog 186 #[.int .u64 (v:Int),.int .i64 (c:Int)] w fun e w'=>∃ v',e=.returned v'∧Own w' w.heap.size v' (Lib.leBytes c v)∧Below w.heap.size w w':=by
 obtain⟨u,x,A,y,z⟩:=info_parts ZnJ
 go_enter func186,ntmps186
 go_wp2_with(at_make;refine wpList_make_full _ rfl _ _ 53 rfl w.heap.size 5 u (.int .u8 0) 1 underlying53 x A y _ _ _ _ c rfl rfl rfl rfl (by rw[z];omega) (by unfold maxLen;omega) zL ?_)
 intro q f n;have h:Below w.heap.size w q:=(Below.refl _ _).grown n zL (fun k d=>by cases d)
 have j:q.ownsRow w.heap.size 5 1 (.slice (some ⟨w.heap.size,0,none⟩) c c) c (Lib.byteCells (ZkN c 0 v)):=by
  have e:(madeCells #[Value.int .u8 0] c).toList=Lib.byteCells (ZkN c 0 v):=by
   rw[toList_madeCells_one];simp[ZkN,Lib.leBytes,Lib.byteCells]
  rw[<-e];exact f
 have B:=ZZ j;have t:=ZZ h;clear f j h n;go_wp2
 go_loopw[11] (fun i b=>∃ k:Nat,k<=c∧i=.int .i64 (k:Int)∧Hid (b.ownsRow w.heap.size 5 1 (.slice (some ⟨w.heap.size,0,none⟩) c c) c (Lib.byteCells (ZkN c k v)))∧Hid (Below w.heap.size w b)) (fun i _=>c-(intOf i).toNat)
 case atStart=>exact⟨0,Nat.zero_le _,rfl,B,t⟩
 case round=>
  obtain⟨k,d,rfl,a,p⟩:=hrel;by_cases g:k<c
  ·have C:b.cell? ⟨w.heap.size,k,none⟩=some (.int .u8 ((ZkN c k v).getD k 0).toNat):=by
    rw[World.ownsRow.cellAt a.o k (by omega),Zfh _ _ (by rw[ZpD c k v d];exact g)]
   have E:b.frozen? ⟨w.heap.size,k,none⟩=false:=World.ownsRow.frozenAt a.o k;go_wp2;go_roundw
   case rel=>
    have m:=World.ownsRow.stored a.o k (Value.int .u8 ((v / 256 ^ k % 256:Nat):Int));rw[ZwN c k v g] at m;rw[ZwO];exact⟨k+1,by omega,by go_num,m.1,p.o.setCell zL _⟩
   case measure=>simp[intOf];omega
  ·go_wp2
   go_ret;have e:k=c:=by omega
   refine⟨_,rfl,Own.mk' (l:=Lib.leBytes c v) a.o (by rw[Lib.leBytes_length]) ?_,p.o⟩
   rw[e];simp[ZkN]
theorem ZkO (v:Nat) (w:World) (h:v<4294967296):
 Calls prog 135 #[.int .u32 (v:Int)] w fun e w'=>∃ v',e=.returned v'∧Own w' w.heap.size v' (Lib.leBytes 4 v)∧Below w.heap.size w w':=by
 have a:Hid (Calls prog 186 #[.int .u64 (v:Int),.int .i64 4] w fun e w'=>∃ v',e=.returned v'∧Own w' w.heap.size v' (Lib.leBytes 4 v)∧Below w.heap.size w w'):=Zuz v 4 w (by omega)
 obtain⟨U,b⟩:∃ U:Int,U=(v:Int):=⟨_,rfl⟩;have i:0<=U:=by omega
 have j:U<4294967296:=by omega
 rw[<-b] at a ⊢;clear b h
 go_enter func135,ntmps135
 go_wp2_with fail
 refine a.o.mono ?_;rintro e w' ⟨v',rfl,c,d⟩;have f:=ZZ c;have g:=ZZ d;clear c d a;go_wp2;go_ret;exact⟨v',rfl,f.o,g.o⟩
theorem Zob:∀ l:List UInt8,Lib.leNat l<256 ^ l.length
 | []=>by simp[Lib.leNat]
 | c::r=>by
  have h:=Zob r;have a:=c.toNat_lt;simp only [Lib.leNat,length_cons,Nat.pow_succ];omega
theorem ZmV:∀ (l:List UInt8) (c:UInt8),Lib.leNat (l++[c])=Lib.leNat l+c.toNat*256 ^ l.length
 | [],c=>by simp[Lib.leNat]
 | d::r,c=>by
  have h:=ZmV r c;simp only [List.cons_append,Lib.leNat,length_cons,Nat.pow_succ,h];rw[Nat.mul_add,<-Nat.mul_assoc,Nat.mul_comm 256 c.toNat,Nat.mul_assoc,Nat.mul_comm 256 (256 ^ r.length)];omega
theorem ZuA (l:List UInt8) (k:Nat) (h:k<l.length):Lib.leNat (l.take (k+1))=Lib.leNat (l.take k)+(l.getD k 0).toNat*256 ^ k:=by
 rw[Zkf l k h,ZmV,length_take,Nat.min_eq_left (by omega)]
theorem Zoc (l:List UInt8) (k:Nat) (h:k<=l.length):Lib.leNat (l.take k)<256 ^ k:=by
 have:=Zob (l.take k)
 rwa [length_take,Nat.min_eq_left h] at this
theorem Zzi (l:List UInt8) (k:Nat) (d:k<l.length) (g:k<8):
 bits .or .u64 ((Lib.leNat (l.take k):Nat):Int) (IntKind.u64.wrap (((l.getD k 0).toNat:Int)*2 ^ (8*k)))=((Lib.leNat (l.take (k+1)):Nat):Int):=by
 have a:=Zoc l k (by omega)
 rw[ZuA l k d,<-ZCo];rw[<-ZCo] at a;refine ZAl (8*k) _ _ (by omega) a ?_
 have b:2 ^ (8*k)<=2 ^ 56:=Nat.pow_le_pow_right (by decide) (by omega)
 have e:=(l.getD k 0).toNat_lt;have c:(l.getD k 0).toNat<=255:=by omega
 have:=Nat.mul_le_mul c b;have f:255*2 ^ 56<18446744073709551616:=by decide
 omega
theorem ZpE (v:Value) (l:List UInt8) (w:World) (j:Rd w v l):
 Calls prog 161 #[v] w fun e w'=>e=.returned (.int .u64 (f.leNat (l.take 8):Nat))∧w'=w:=by
 obtain⟨ao,cap,rfl,A,h,m,c⟩:=j;clear m;have t:(l.length:Int)<=9223372036854775807:=by unfold maxLen at h;omega
 by_cases x:(l.length:Int)<=8
 all_goals
  go_enter func161,ntmps161
  go_wp2
  go_loop [3,8] (fun n i=>∃ k:Nat,i=.int .i64 k∧k<=8∧k<=l.length∧n=.int .u64 (f.leNat (l.take k):Nat)) (fun _ i=>8-(intOf i).toNat)
  case atStart=>exact⟨0,rfl,by omega,by omega,rfl⟩
  case round=>
   obtain⟨k,rfl,B,p,rfl⟩:=hrel;by_cases a:k<8∧k<l.length
   ·obtain⟨a,d⟩:=a
    rcases c with c | ⟨b,off,rfl,hc⟩
    ·subst c;simp at d
    ·have q:=hc k d
     have g:=ZZ (Zzi l k d a);have u:(l.getD k 0).toNat<256:=UInt8.toNat_lt _;clear hc;generalize (l.getD k 0).toNat=y at *;generalize f.leNat (l.take k)=z at *;go_wp2
     go_round
     case rel=>exact⟨k+1,by go_num,by omega,by omega,by rw[g.o]⟩
     case measure=>simp[intOf];omega
   ·go_wp2
    go_ret;refine⟨Zfi ?_,rfl⟩;by_cases e:k=8
    ·rw[e]
    ·rw[List.take_of_length_le (by omega:l.length<=k),List.take_of_length_le (by omega:l.length<=8)]
def bs (l:List UInt8):ByteArray:=⟨l.toArray⟩
theorem ZwP (l:List UInt8):(bs l).toList=l:=ByteArray.toList_mk l
theorem ZCp (a b:List UInt8):((bs a).toList == (bs b).toList)=(a == b):=by rw[ZwP,ZwP]
theorem Rd.str {w:World} {v:Value} {l:List UInt8} (h:Rd w v l):(convert 53 9 v).run prog w=.ok (.string (bs l)) w:=by
 obtain⟨ao,cap,rfl,_,_,d,h⟩:=h
 cases ao with
 | none=>
  have b:l=[]:=List.eq_nil_of_length_eq_zero (by have:=d rfl;omega)
  subst b;exact run_convert_bytes_nil w 53 5 underlying53 underlying5 0 cap 9 underlying9
 | some a=>
  have b:(loadCells a l.length).run prog w=.ok ((l.map fun c=>(c.toNat:Int)).map (Value.int .u8)).toArray w:=by
   have:=run_loadCells_list (P:=prog) w a (Lib.byteCells l) (Rd.cells h a rfl);rw[Zbi] at this;rw[this];simp[Lib.byteCells,Function.comp_def]
  rw[run_convert_bytes_string w 53 9 5 _ l.length cap underlying53 underlying5 underlying9,run_bytesToString w _ l.length cap _ b,foldl_push_bytes]
  have e:(List.map (fun n:Int=>UInt8.ofNat n.toNat) (List.map (fun c:UInt8=>(c.toNat:Int)) l))=l:=by
   rw[List.map_map]
   conv=>rhs;rw[<-List.map_id l]
   apply List.map_congr_left;intro c _;simp
  rw[e];simp[bs,ByteArray.empty,ByteArray.emptyWithCapacity];rfl
def ZAK (B:Nat) (w:World) (p:Nat) (d:Dk) (N T:Nat):Prop:=∃ F,Dsk F w p d N T∧∀ k,F k->B<=k
theorem Zto (B:Nat) (room:Int) (c:I64 room) (w:World) (a:B<=w.heap.size):
 Calls prog 9 #[.int .i64 room] w fun e w'=>∃ p,e=.returned (ptr p)∧ZAK B w' p (Zmi room) 0 0∧Below B w w':=by
 refine(ZAF room c w).mono ?_;rintro e w' ⟨p,b,f,d⟩;exact⟨p,b,⟨_,f,fun k g=>by omega⟩,d.mono a⟩
theorem Dsk.ltF {F:Nat->Prop} {w:World} {p:Nat} {d:Dk} {N T:Nat} (h:Dsk F w p d N T):∀ k,F k->k<w.heap.size:=by
 obtain⟨L,a,_⟩:=h;exact a.lt
theorem ZuB {B p:Nat} {d:Dk} {N T:Nat} (w:World) (h:ZAK B w p d N T) (a:N<=1000000):
 Calls prog 28 #[ptr p] w fun e w'=>∃ v,e=.returned v∧ZaB w' w.heap.size v ((Zbk d).map Prod.fst)∧Below w.heap.size w w':=by
 obtain⟨F,⟨L,c,b,_⟩,f⟩:=h;exact ZhJ w c b a
theorem ZAK.ok {B:Nat} {w:World} {p:Nat} {d:Dk} {N T:Nat} (h:ZAK B w p d N T):OkD d∧Bnd d N T:=by
 obtain⟨F,⟨L,e,a,b,_⟩,c⟩:=h;exact⟨a,b⟩
theorem ZcW (w:World) (o:Obj):Below w.heap.size w (w.alloc o):=(Below.refl _ w).alloc zL o
theorem Rd.mid {w:World} {ao:Option Addr} {n cap:Nat} {l:List UInt8} (h:Rd w (.slice ao n cap) l) (i j m:Nat) (x:i<=j) (y:j<=l.length) (z:j<=m) (A:m<=cap):Rd w (sliced ao i j m 1) ((l.drop i).take (j-i)):=by
 obtain⟨v,C,g,u,B,p,d⟩:=h;simp only [Value.slice.injEq] at g;obtain⟨rfl,rfl,rfl⟩:=g;have a:((l.drop i).take (j-i)).length=j-i:=by simp;omega
 unfold sliced;by_cases f:m=i
 ·rw[if_pos f]
  have e:j-i=0:=by omega
  refine⟨ao,m-i,by rw[a],by omega,by omega,fun c=>by have:=p c;omega,.inl ?_⟩
  rw[e];simp
 ·rw[if_neg f]
  refine⟨ao.map (·.add (i*1)),m-i,by rw[a],by omega,by omega,fun c=>?_,?_⟩
  ·have t:ao=none:=by simpa using c
   have:=p t;omega
  ·rcases d with d | ⟨b,off,h5,h6⟩
   ·exact .inl (by rw[d];simp)
   ·refine .inr ⟨b,off+i,?_,fun k q=>?_⟩
    ·rw[h5,Nat.mul_one,Option.map_some,Addr.add_lit]
    ·rw[a] at q
     rw[Nat.add_assoc,h6 (i+k) (by omega)]
     simp[List.getD,q]
theorem ZbU:prog.elem 53=5:=by kernel_rfl
theorem Zfs (w:World):(sizeOf 5).run prog w=.ok 1 w:=by
 obtain⟨c,b,_,a,_⟩:=info_parts ZnJ;simp[sizeOf,typeInfo,b,a]
theorem ZaF:prog.underlying 53=some (.slice (prog.elem 53)):=by rw[ZbU];exact underlying53
theorem ZkP (w:World) (v:Value) (l:List UInt8) (a:Rd w v l) (k:IntKind) (i:Int) (b:0<=i) (d:i<=l.length):
 ∃ v',(Instr.sliceAt 53 v (some (.int k i)) none none).run prog w=.ok v' w∧Rd w v' (l.drop i.toNat):=by
 have h:=a;obtain⟨ao,cap,rfl,c,_⟩:=a;refine⟨sliced ao i.toNat l.length cap 1,?_,?_⟩
 ·rw[run_sliceAt_slice w 53 _ _ _ _ ZaF,run_slice_l w 53 ao l.length cap ZaF k i b (by omega),ZbU,Zfs]
  rfl
 ·have:=h.mid i.toNat l.length cap (by omega) zL c zL
  rw[List.take_of_length_le (by simp)] at this
  exact this
theorem ZiE (w:World) {e:Array Oper} {rest:List Oper} {o:Oper} {a:Act} {Q:Exit->Act->World->Prop} (i:o.guard=none) (x:Operand) (lo d c:Option Operand)
 (f:o.op=.slice 53 x lo d c) (l:List UInt8)
 (b:∃ v',(Instr.sliceAt 53 (a.eval x) (lo.map a.eval) (d.map a.eval) (c.map a.eval)).run prog w=.ok v' w∧Rd w v' l)
 (h:∀ v',Rd w v' l->wpList prog e Q rest (a.put o.dst v') w):wpList prog e Q (o::rest) a w:=
 wpList_plain i fun _ g=>by
  obtain⟨v',b,j⟩:=b;unfold Oper.wp execOp;simp only [f,b,Sem.run_bind,Sem.run_pure,Result.andThen_ok];exact g _ _ (h v' j)
end Go.Proofs.YtnahjngbneicaaaGreatDoor
