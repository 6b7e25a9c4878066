import Derived.Test.YtnahjngbneicaaaGreatDoorPack3
import Derived.Sort.OwnSortedInts
namespace Go.Proofs.YtnahjngbneicaaaGreatDoor
open _root_.Go.Proofs.Tryz
open List (getElem_cons_succ getElem_cons_zero getElem_toArray length_cons length_take setIfInBounds_toArray set_cons_succ set_cons_zero)
set_option maxHeartbeats 4000000
set_option maxRecDepth 100000
open Go.RowKit Go.Maps Go.Shelf
variable {B N T b c cap n p r:Nat} {v:Value} {l:List UInt8} {f:Int->Option Nat} {w w':World} {F:Nat->Prop} {L:Lay} {d:Dk} {u:Int} {ao:Option Addr}
theorem ZwG {l:List Int} (w:World) (h:ZaB w B v l) (u:l.length<=10000000):
 Calls prog 67 #[v] w fun e w'=>e=.returned (.tuple #[])∧ZaB w' B v (l.mergeSort fun x y=>decide (x<=y))∧w.grownBy w' v.ownBlock:=by
 have f:=h;have c:w.grownBy w v.ownBlock:=⟨rfl,rfl,rfl,Nat.le_refl _,fun _ _ _=>rfl⟩
 rcases h.2 with ⟨rfl,m⟩ | ⟨g,cap,cur,rfl,k,b,j,q,i,d⟩
 ·have e:l=[]:=List.eq_nil_of_length_eq_zero m
  subst e;have a:=Any.slices_Sort_int_none ZCl none 0 w;refine a.mono ?_;rintro e w' ⟨rfl,rfl⟩;exact⟨rfl,by simpa using f,c⟩
 ·by_cases e:l=[]
  ·subst e
   have a:=Any.slices_Sort_int_none ZCl (some ⟨g,0,none⟩) cap w;refine a.mono ?_;rintro e w' ⟨rfl,rfl⟩;exact⟨rfl,by simpa using f,c⟩
  ·have t:Sort.Holds (Value.int .i64) w g 0 l.toArray:=holds_of_blockI b (by rw[Nat.mul_one] at d;exact d)
   have a:=Any.slices_Sort_int ZCl g 0 cap l w t (Array.getElem?_eq_some_iff.1 b).1 (by omega)
   refine a.mono ?_;rintro e w' ⟨rfl,n,os,rfl⟩;refine⟨rfl,?_,grownBy_sortedI _⟩;have p:=ownsRow_sortedI (n:=n) (os:=os) (ss:=l) (ts:=l.mergeSort fun x y=>decide (x<=y)) (by simp) k b j q i
   unfold ZaB;rw[show(l.mergeSort fun x y=>decide (x<=y)).length=l.length by simp]
   exact p
structure Met (f:Int->Option Nat) (left:Lit->Bool) (l:List Int):Prop where
 mem:∀ p,I64 p->(p ∈ l↔(f p).isSome=true∧left (.int .i64 p)=false)
 nd:l.Nodup
 i:∀ p ∈ l,I64 p
theorem Met.step {left:Lit->Bool} {l:List Int} (h:Met f left l) {x:Int} (d:I64 x) (g:left (.int .i64 x)=true) (m:(f x).isSome=true):Met f (fun z=>left z && !z.sameKey (.int .i64 x)) (l++[x]):=by
 refine⟨fun p hp=>?_,?_,fun p hp=>?_⟩
 ·rw[List.mem_append,h.mem p hp,List.mem_singleton]
  by_cases e:p=x
  ·subst e
   have c:(Lit.int .i64 p).sameKey (.int .i64 p)=true:=WideAt.sameKey_self (by first | exact trivial | simp[WideAt.IsKeyLit])
   simp[c,m]
  ·have c:(Lit.int .i64 p).sameKey (.int .i64 x)=false:=sameKey_ne (by intro h;injection h with _ h;exact e h)
   simp[c,e]
 ·rw[List.nodup_append]
  refine⟨h.nd,by simp,fun a j b k=>?_⟩
  rw[List.mem_singleton.1 k];rintro rfl;have:=((h.mem a d).1 j).2;rw[g] at this
  cases this
 ·rcases List.mem_append.1 hp with hp | hp
  ·exact h.i p hp
  ·rw[List.mem_singleton.1 hp];exact d
theorem Met.done {left:Lit->Bool} {l:List Int} (h:Met f left l) (A:∀ k,left k=false) {d:Dir} (j:ZbM d) (w:∀ p ∈ d,I64 p.1) (m:∀ p,I64 p->(f p).isSome=(look d p).isSome):(l.mergeSort fun x y=>decide (x<=y))=d.map Prod.fst:=by
 have t:(l.mergeSort fun x y=>decide (x<=y)).Pairwise (fun a b=>decide (a<=b)=true):=List.pairwise_mergeSort (fun a b c e v=>by simp only [decide_eq_true_eq] at *;omega) (fun a b=>by simp only [Bool.or_eq_true,decide_eq_true_eq];omega) l
 have q:=List.mergeSort_perm l fun x y=>decide (x<=y)
 have u:(l.mergeSort fun x y=>decide (x<=y)).Nodup:=q.nodup_iff.2 h.nd
 refine ZiZ ?_ (ZiY j) fun x=>?_
 ·refine(t.and u).imp fun {a b} hab=>?_
  have e:=of_decide_eq_true hab.1;have v:=hab.2;omega
 ·rw[q.mem_iff,List.mem_map]
  constructor
  ·intro g
   have e:=((h.mem x (h.i x g)).1 g).1;rw[m x (h.i x g)] at e;obtain⟨y,z⟩:=Option.isSome_iff_exists.1 e;exact⟨(x,y),(Zcz j x y).1 z,rfl⟩
  ·rintro⟨p,hpd,rfl⟩
   have n:=w p hpd;have e:look d p.1=some p.2:=(Zcz j p.1 p.2).2 hpd;exact(h.mem p.1 n).2 ⟨by rw[m p.1 n,e];rfl,A _⟩
theorem ZkL {D:DataW Unit} (h:w.ownsMap prog 3 ZdB b n D):Maps.size D<=n:=by
 obtain⟨d,c,e,F,a,rfl⟩:=h;rw[size_eq,length_sorted];simpa using a
theorem Zru {a:Nat} {D:DataW Unit} {left:Lit->Bool} (h:w.ranges prog 3 ZdB b r n D left a) (f:w'.heap[b]?=w.heap[b]?) (m:w'.heap[r]?=w.heap[r]?):w'.ranges prog 3 ZdB b r n D left a:=by
 obtain⟨d,e,k,l,i,p,F,c,g,j,rest⟩:=h;exact⟨d,e,k,l,i,f.trans p,F,c,g,m.trans j,rest⟩
theorem ZhJ (w:World) (h:ZaM F w p L d u N) (C:OkD d) (hN:N<=1000000):
 Calls prog 28 #[ptr p] w fun e w'=>∃ v,e=.returned v∧ZaB w' w.heap.size v ((Zbk d).map Prod.fst)∧Below w.heap.size w w':=by
 obtain⟨⟨-,-,c2,-,-,-⟩,-⟩:=h.cells;obtain⟨D,E,ac⟩:=h.rest.now;have al:=ZZ E;have Y:Hid (Maps.size D<=N):=ZZ (ZkL E);have aj:Hid (L.now<w.heap.size):=ZZ h.rest.now.lt;have I:Hid (∀ q,I64 q->Maps.has D (.int .i64 q)=(look (Zbk d) q).isSome):=ZZ (fun q t=>by rw[ac.has t];cases look (Zbk d) q <;> rfl)
 have am:Hid (∀ left l,Met (look (Zbk d)) left l->(∀ k,left k=false)->(l.mergeSort fun x y=>decide (x<=y))=(Zbk d).map Prod.fst):=ZZ (fun left l hm hl=>hm.done hl C.dir.rise (fun p hp=>Zfr (C.dir.may p hp).1) (fun _ _=>rfl))
 clear h E ac C
 go_enter func28,ntmps28
 go_wp2_with(first
  | (at_range;refine wpList_range_own _ rfl _ 65 rfl 3 115 ZeL underlying65 ZdB L.now N D rfl al.o ?_;intro w0 ap i av)
  | go_in)
 go_frame
 go_loopw[3] (fun v wr=>∃ (left:Lit->Bool) (z:Nat) (l:List Int),Hid (wr.ranges prog 3 ZdB L.now w.heap.size N D left z)∧z+l.length<=Maps.size D∧Hid (ZaB wr (w.heap.size+1) v l)∧Hid (Met (look (Zbk d)) left l)∧Hid (Below w.heap.size w wr∧w.heap.size+1<=wr.heap.size))
  (fun _ wr=>wr.rangeLeft L.now w.heap.size)
 case atStart=>
  refine⟨_,_,[],ZZ ap,by simp,ZZ (ZaB.nil _ _),ZZ ⟨fun q t=>?_,List.nodup_nil,by simp⟩,ZZ ⟨⟨i.os,i.tape,i.output,i.size,fun k a=>i.block k a (by simp)⟩,by omega⟩⟩
  rw[I.o q t]
  cases look (Zbk d) q <;> simp
 case round=>
  obtain⟨left,z,l,Z,ae,n,J,g⟩:=hrel
  go_wp2_with(first
   | (at_next;refine wpList_next_ranges _ rfl _ rfl 3 ZeL ZdB (Value.int .i64) (fun b:Nat=>ptr b) (fun key kl a=>by obtain⟨x,rfl,_⟩:=Maps.keyOf_int_inv underlying3 a;exact⟨x,rfl⟩) (fun v y A=>by obtain⟨c,rfl,_⟩:=ZgY A;exact⟨c,rfl⟩) L.now w.heap.size N _ _ _ rfl Z.o ?_ ?_)
   | go_in)
  ·intro ai T
   have ak:=ZZ T;have af:l.length<=10000000:=by have:=Y.o;omega
   have HS:=ZZ (ZwG _ n.o af);clear ai T
   go_wp2_with fail
   refine HS.o.mono ?_;rintro e W1 ⟨rfl,ab,f⟩;have ar:Hid (Below w.heap.size w W1):=ZZ (g.o.1.grown f g.o.1.size (fun k a=>by have:=(World.ownsRow.lt n.o k a).1;omega))
   have G:=ZZ ab;clear ab f;go_wp2;go_ret;refine⟨_,rfl,?_,ar.o⟩;rw[<-am.o _ _ J.o ak.o];exact G.o.mono (by omega)
  ·intro x c kl yd yp m O M aa A W Q U f an au
   obtain⟨x',ex,rfl,X⟩:=Maps.keyOf_int_inv underlying3 M
   cases ex
   have H:=ZZ (ZbF X);have HF:Hid ((look (Zbk d) x).isSome=true):=ZZ (by rw[<-I.o x H.o];exact has_true_of_atKey W)
   have aq:=ZZ (J.o.step H.o aa HF.o);have ag:=ZZ Q;have G:Hid (ZaB m (w.heap.size+1) _ l):=ZZ (World.ownsRow.kept n.o f (.inr (fun e=>by have:=(World.ownsRow.lt n.o _ e).1;omega)))
   have B:Hid (Below w.heap.size w m∧w.heap.size+1<=m.heap.size):=ZZ ⟨g.o.1.grown f g.o.1.size (fun k a=>by have:=Option.some.inj a;omega),by have:=g.o.2;omega⟩
   have ah:=ZZ U
   have S:l.length<=1000000∧O+(l++[x]).length<=Maps.size D:=by
    have:=Y.o;simp only [List.length_append,List.length_singleton];omega
   have R:=ZZ S;clear M aa A W Q U f an X S ae
   go_wp2_with(at_builtin;refine(fun(h:True->_)=>h trivial) ?_)
   intro _;refine Zio m rfl _ _ rfl (w.heap.size+1) u3 l rfl G.o x rfl R.o.1 B.o.2 ?_;intro v2 P K j;have ad:=ZZ K;have V:=ZZ (Zru ag.o (j.block _ (by have:=aj.o;omega)) (j.block _ (by omega)))
   have ao:Hid (Below w.heap.size w P∧w.heap.size+1<=P.heap.size):=ZZ ⟨B.o.1.trans (j.mono (by omega)),by have:=B.o.2;have:=j.size;omega⟩
   clear K j;go_wp2;go_roundw
   case rel=>exact⟨_,O,l++[x],V,R.o.2,ad,aq,ao⟩
   case measure=>rw[V.o.left_eq,Z.o.left_eq];exact ah.o
theorem ZaM.synced {b:World} (h:ZaM F w p L d u N) (m:Below w.heap.size w b) (y:b.heap.size=w.heap.size+1) (t:Zct b w.heap.size N (fun n=>(look (Zbk d) n).map L.ps)):
 ZaM (Gr F w b) ((b.setCell ⟨p,3,none⟩ (.map (some w.heap.size))).setCell ⟨p,4,none⟩ (.slice none 0 0)) p { L with kept:=w.heap.size,wv:=.slice none 0 0,cs:=[] } { d with kept:=Zbk d,waits:=[] } u N:=by
 have e:=h.more m;have q:=e.rest
 have f:∀ k,k≠p->((b.setCell ⟨p,3,none⟩ (.map (some w.heap.size))).setCell ⟨p,4,none⟩ (.slice none 0 0)).heap[k]?=b.heap[k]?:=fun k j=>by
  rw[Below.heap_setCell _ _ _ _ j,Below.heap_setCell _ _ _ _ j]
 have a:=q.keep e.head (fun k _ j=>f k j)
 refine⟨(e.head.set 3 _).set 4 _,⟨a.now,t.keep (f _ (by have:=h.lt p h.fh;show w.heap.size≠p;omega)),World.ownsRow_nil _ _ _ _,rfl,(fun i c v x=>by simp at x),a.file,a.psn,a.vsn,?_,a.fn,.inr ⟨Nat.le_refl _,by show w.heap.size<_;omega⟩,(fun g l=>by cases l),a.fp,a.fv⟩,e.fh,fun k f=>?_⟩
 ·have:=h.rest.now.lt
  show L.now≠w.heap.size;omega
 ·have:=e.lt k f
  simpa using this
theorem Zrv (w:World) (h:Dsk F w p d N T):
 Calls prog 107 #[ptr p] w fun e w'=>Zjk F w p (ZaS d).1 (ZaS d).2 (N+2) T e w':=by
 have J:=ZZ h;obtain⟨L,h,z,D,y,E⟩:=h;have H:=ZZ h;have q:=ZZ z;have j:=ZZ D;have g:=ZZ (And.intro y E);have c:=ZZ (Zpq w h);obtain⟨⟨-,-,I,R,W,-⟩,-,G,V,-⟩:=h.cells;have K:=ZZ (Zuk h.rest.now);clear z D y E;unfold ZaS;by_cases a:d.power=0
 ·rw[if_pos a]
  rw[a] at c;clear a h
  go_enter func107,ntmps107
  go_wp2_with fail
  refine c.o.mono ?_;rintro e w' ⟨rfl,rfl⟩;go_wp2;go_ret;exact Zjk.same J.o (by omega) zL
 rw[if_neg a];have m:(d.power != 0)=true:=by simpa using a
 rw[m] at c;clear a m h
 go_enter func107,ntmps107
 go_wp2_with fail
 refine c.o.mono ?_;rintro e w' ⟨rfl,rfl⟩
 go_wp2_with fail
 refine K.o.mono ?_;rintro e t ⟨rfl,v,l,b⟩;have n:=ZZ (H.out.synced b l v);have x:=ZZ (H.out.more b);have Y:=ZZ b;obtain⟨⟨-,-,-,O,A,-⟩,-,S,M,-⟩:=x.o.cells;obtain⟨va,vn,vc,B⟩:=ZhH x.o.rest.row;rw[B] at A;have C:Hid (Zap F w' ((t.setCell ⟨p,3,none⟩ (.map (some w'.heap.size))).setCell ⟨p,4,none⟩ (.slice none 0 0))):=ZZ (((Zap.ofBelow b).setCell 3 (fun _=>H.out.fh) _).setCell 4 (fun _=>H.out.fh) _)
 obtain⟨i,f⟩:∃ i,i=(t.setCell ⟨p,3,none⟩ (.map (some w'.heap.size))).setCell ⟨p,4,none⟩ (.slice none 0 0):=⟨_,rfl⟩;rw[<-f] at n C;have u:=ZZ f;have Z:=ZZ l;clear I R W G V v l b B f
 go_upto_region 5 with fail
 rw[<-u.o];clear u O A S M
 go_wp2_with fail
 refine(Zfq i n.o g.o.2).mono ?_;rintro e X ⟨rfl,U,Q⟩;go_wp2;go_ret;refine⟨rfl,_,⟨_,U.mono (by omega),ZjN (fs:=d.files) q.o.dir q.o.keep,⟨by have:=j.o.files;show d.files.length<=_;omega,?_,j.o.bytes⟩,g.o.1,Zgr g.o.2⟩,C.o.trans Q (fun k hk hf=>?_),fun k hk=>?_⟩
 ·have h1:=j.o.names
  have P:=Zey d d.waits.length;rw[Zgo] at P;show(Zbk d).length+0<=_;omega
 ·rcases hf with hf | hf
  ·exact hf
  ·omega
 ·rcases hk with hk | hk
  ·exact .inl hk
  ·exact .inr hk.1
open Go.RowKit Go.Maps
open Go.ChangeMaps Go.MapKept
open Go.WideElems (Fit rd rg pl rd_val elemAt)
theorem ZpB:∀ {a b:List Int},a.Nodup->(∀ x ∈ a,x ∈ b)->a.length<=b.length
 | [],_,_,_=>Nat.zero_le _
 | x::a,b,hn,hs=>by
  rw[List.nodup_cons] at hn;have d:=hs x (List.mem_cons_self ..);have g:=ZpB (a:=a) (b:=b.erase x) hn.2 fun y c=>(List.mem_erase_of_ne (by rintro rfl;exact hn.1 c)).2 (hs y (List.mem_cons_of_mem _ c))
  have e:=List.length_erase_of_mem d;have f:=List.length_pos_of_mem d;rw[length_cons];omega
def toI:Value->Int
 | .int _ x=>x
 | _=>0
theorem Zct.tight (h:Zct w b n f) {l:List Int} (I:∀ p,I64 p->(f p).isSome=true->p ∈ l):Zct w b l.length f:=by
 obtain⟨D,⟨g,t,u,F,P,rfl⟩,v⟩:=h
 have k:∀ e ∈ g.toList,∃ x,e.key=.int .i64 x∧I64 x:=fun e i=>by
  obtain⟨y,j⟩:=F.reads e i;obtain⟨x,d,_,G⟩:=Maps.keyOf_int_inv underlying3 (WideElems.rd_key j);exact⟨x,d,ZbF G⟩
 refine⟨_,⟨g,t,u,F,?_,rfl⟩,v⟩
 have C:(g.toList.map fun e=>toI e.key).Nodup:=by
  have J:=((stamped_iff g t).1 F.stamped).2.2;rw[List.Nodup,List.pairwise_map];refine List.Pairwise.imp_of_mem ?_ J;intro a c L K N e;obtain⟨x,d,_⟩:=k a L;obtain⟨y,j,_⟩:=k c K;rw[d,j] at e;have:x=y:=e;exact N (by rw[d,j,this])
 have A:∀ x ∈ (g.toList.map fun e=>toI e.key),x ∈ l:=fun x d=>by
  obtain⟨e,i,rfl⟩:=List.mem_map.1 d;obtain⟨x,d,m⟩:=k e i;rw[d];refine I x m ?_;rcases Maps.fit_look false ZeL underlying65 (Zwz w) u F (keyOf_int_mk underlying3 (Zza m)) with ⟨_,M,_⟩ | ⟨O,y,_,_,_,B,H,_⟩
  ·exact absurd d (M e i)
  ·cases ef:f x with
   | some _=>rfl
   | none=>
    obtain⟨E,_,rfl⟩:=ZgY B;refine(ZwB (x:=E) fun z=>?_).elim
    have q:=H z;rw[v x m z,ef] at q;exact q.symm
 have:=ZpB C A;simpa using this
open Go.RowKit
theorem ZwH {s:Nat} {t:TypeId} {xs:List Value} (h:w.ownsRow 0 t s v n xs):∃ ao cap,v=.slice ao n cap∧n<=cap∧((ao=none∧cap=0)∨∃ g,ao=some ⟨g,0,none⟩):=by
 rcases h.2 with ⟨a,c⟩ | ⟨g,cap,cur,a,_,_,b,_⟩
 ·exact⟨none,0,by rw[a,c],by omega,.inl ⟨rfl,rfl⟩⟩
 ·exact⟨some ⟨g,0,none⟩,cap,a,b,.inr ⟨g,rfl⟩⟩
theorem _root_.Go.World.grownBy.trans2 {a b c:World} (h:a.grownBy b (some r)) (k:b.grownBy c (some r)):a.grownBy c (some r):=ZkG h k
theorem ZaM.lost {l:Dir} (h:ZaM F w p L d u N) (B:w.heap.size<=w'.heap.size)
 (x:∀ k,F k->k≠p->k≠L.now->k≠L.kept->w'.heap[k]?=w.heap[k]?) (m:Bk 69 w' p (ZiC { L with wv:=.slice none 0 0,cs:=[] } d u))
 (q:Zct w' L.now N (fun n=>(look l n).map L.ps)) (z:Zct w' L.kept N (fun n=>(look l n).map L.ps)):
 ZaM F w' p { L with wv:=.slice none 0 0,cs:=[] } { d with kept:=l,waits:=[] } u N:=by
 have a:=h.rest;have e:∀ {t:TypeId} {k:Nat} {cs:Array Value},Bk t w k cs->F k->t≠69->w'.heap[k]?=w.heap[k]?:=fun e j y=>x _ j (e.ne h.head y) (e.neMap a.now) (e.neMap a.kept)
 refine⟨m,⟨q,z,World.ownsRow_nil _ _ _ _,rfl,(fun i c v b=>by simp at b),fun i b=>?_,a.psn,a.vsn,a.nk,a.fn,a.fk,(fun g f=>by cases f),a.fp,a.fv⟩,h.fh,fun k j=>by have:=h.lt k j;omega⟩
 refine(a.file i b).keep (e (a.file i b).box (a.fp i b) (by decide)) fun g f=>?_
 obtain⟨C,A⟩:=Zeh (a.file i b).own f;exact e A (a.fv i b g f) (by decide)
theorem ZkM (names:Int) (w:World) (h:ZaM F w p L d u N) (aj:OkD d) (ag:Bnd d N T) (hN:N<=1000000):
 Calls prog 31 #[ptr p,.int .i64 names] w fun e w'=>e=.returned (.tuple #[])∧ZaM F w' p { L with wv:=.slice none 0 0,cs:=[] } { d with kept:=ZeF d (Zcv names d.waits.length),waits:=[] } u N∧Zap F w w':=by
 have H:=ZZ h;have an:=ZZ aj;have aQ:=ZZ ag;have hW:d.waits.length<=N:=by have:=ag.names;omega
 obtain⟨K,hK⟩:∃ K,K=Zcv names d.waits.length:=⟨_,rfl⟩;have a2:K<=d.waits.length:=by rw[hK];exact Zhq _ _
 rw[<-hK];have av:Hid (∀ q,Calls prog 72 #[.int .i64 names,.int .i64 (d.waits.length:Int)] (w.drewN q) fun e w'=>e=.returned (.int .i64 (K:Int))∧w'=w.drewN q):=ZZ (fun q=>by rw[hK];exact Zps names d.waits.length (by omega) (w.drewN q))
 obtain⟨⟨-,-,-,c3,c4,-⟩,-,-,f4,-⟩:=h.cells;obtain⟨ao,cap,Q,aN,aa⟩:=ZwH h.rest.row;rw[h.rest.many] at Q aN;rw[Q] at c4;have a1:=ZZ Q
 have aC:Hid (∀ k,k<K->∃ g c x,ao=some ⟨g,0,none⟩∧d.waits[k]?=some c∧ChV F w L.ps c x∧w.cell? ⟨g,k,none⟩=some x∧ZvY d.files.length c∧ZeF d (k+1)=chD (ZeF d k) c∧g≠L.kept):=ZZ (fun k hk=>by
  have P:k<d.waits.length:=by omega
  have aE:k<L.cs.length:=by rw[h.rest.many];exact P
  rcases aa with ⟨_,aX⟩ | ⟨g,rfl⟩
  ·omega
  ·have aB:L.wv.ownBlock=some g:=by rw[Q];rfl
   refine⟨g,d.waits[k],L.cs[k],rfl,List.getElem?_eq_getElem P,h.rest.wait k _ _ (List.getElem?_eq_getElem P) (List.getElem?_eq_getElem aE),?_,aj.chs _ (List.getElem_mem P),Zwc d P,?_⟩
   ·have:=World.ownsRow.cells h.rest.row aB k _ (List.getElem?_eq_getElem aE)
    rw[Addr.add_lit,Nat.zero_add] at this;exact this
   ·obtain⟨aW,aO⟩:=Zeh h.rest.row aB
    exact aO.neMap h.rest.kept)
 clear aj ag Q aa hK h
 go_enter func31,ntmps31
 go_wp2;refine wp_region_quiet_lit (by kernel_rfl) (by kernel_rfl) ?_
 repeat (go_big_quiet_step ((go_at_call 72;exact Calls.quiet_of_same (av.o _))))
 refine wpQuiet_nil ?_;rintro _ ⟨nq,rfl⟩;have a:Hid (ZaM F (w.drewN nq) p L d u N):=ZZ (H.out.drewN nq)
 have ah:Hid (∀ k,k<K->∃ g c x,ao=some ⟨g,0,none⟩∧d.waits[k]?=some c∧ChV F (w.drewN nq) L.ps c x∧(w.drewN nq).cell? ⟨g,k,none⟩=some x∧ZvY d.files.length c∧ZeF d (k+1)=chD (ZeF d k) c∧g≠L.kept):=ZZ (fun k hk=>by
  obtain⟨g,c,x,t,v,E,h4,h5,h6⟩:=aC.o k hk
  exact⟨g,c,x,t,v,E.keep (fun _ i=>i) (fun _ _=>rfl) (fun _ _ _ _=>rfl),h4,h5,h6⟩)
 have ay:Hid (Zap F w (w.drewN nq)):=ZZ ((Zap.refl _ _).drewN nq);obtain⟨W,aw⟩:∃ W,W=w.drewN nq:=⟨_,rfl⟩;rw[<-aw] at a ah ay ⊢;clear aw av aC c3 c4 f4 H;go_wp2
 go_loopw[19] (fun vi wr=>∃ k:Nat,vi=.int .i64 (k:Int)∧k<=K∧Hid (Zct wr L.kept (N+k) (fun n=>(look (ZeF d k) n).map L.ps))∧Hid (W.grownBy wr (some L.kept))) (fun vi _=>K-(intOf vi).toNat)
 case atStart=>exact⟨0,rfl,Nat.zero_le _,ZZ (by rw[ZoS];exact a.o.rest.kept),ZZ ⟨rfl,rfl,rfl,Nat.le_refl _,fun _ _ _=>rfl⟩⟩
 case round=>
  obtain⟨k,rfl,aY,V,z⟩:=hrel;have ad:=ZZ (a.o.head.keep (z.o.block p a.o.head.lt (fun e=>(a.o.head.neMap a.o.rest.kept) (Option.some.inj e))))
  by_cases aP:k<K
  ·obtain⟨g,c,x,aa,hc,J,I,R,aG,aF⟩:=ah.o k aP
   have ai:Hid (∀ n',look (ZeF d (k+1)) n'=chF (look (ZeF d k)) c n'):=ZZ (fun n'=>by rw[aG];exact Zgn (an.o.dirs k).rise c (Zpx R) n')
   have J:ChV F wr L.ps c x:=J.keep (fun _ i=>i) (fun _ _=>rfl) (fun j cs i hb=>z.o.block j (a.o.lt j i) (fun e=>by
    rcases hb with hb | hb <;> exact(hb.neMap a.o.rest.kept) (Option.some.inj e)))
   have I:wr.cell? ⟨g,k,none⟩=some x:=(z.o.cell I (fun e=>aF (Option.some.inj e)))
   obtain⟨d3,-⟩:=ad.o.cell 3 rfl;subst aa;clear aG aF hc
   cases c with
   | give n f=>
    obtain⟨b1,b2,B,t,v,-,-⟩:=J;have O:=ZZ (Zpu (f:=f) R.1 wr t v V.o (by omega))
    rw[B] at I;clear B t v
    go_wp2_with fail
    refine O.o.mono ?_;rintro e S ⟨rfl,A,C⟩;have U:Hid (Zct S L.kept (N+(k+1)) (fun n=>(look (ZeF d (k+1)) n).map L.ps)):=ZZ (A.fun fun n' _=>by rw[ai.o])
    have M:=ZZ (z.o.trans2 C);clear A C;go_wp2;go_roundw
    case rel=>exact⟨k+1,by go_num,by omega,U,M⟩
    case measure=>simp[intOf];omega
   | move n m f=>
    obtain⟨b1,b2,b3,B,t,v,E,-,-,-⟩:=J;have O:=ZZ (Zpv (f:=f) R.1 R.2.1 wr t v E V.o (by omega))
    rw[B] at I;clear B t v E
    go_wp2_with fail
    refine O.o.mono ?_;rintro e S ⟨rfl,A,C⟩;have U:Hid (Zct S L.kept (N+(k+1)) (fun n=>(look (ZeF d (k+1)) n).map L.ps)):=ZZ (A.fun fun n' _=>by rw[ai.o])
    have M:=ZZ (z.o.trans2 C);clear A C;go_wp2;go_roundw
    case rel=>exact⟨k+1,by go_num,by omega,U,M⟩
    case measure=>simp[intOf];omega
   | take n=>
    obtain⟨b1,B,t,-⟩:=J;have O:=ZZ (Zpw R wr t V.o );rw[B] at I;clear B t
    go_wp2_with fail
    refine O.o.mono ?_;rintro e S ⟨rfl,A,C⟩;have U:Hid (Zct S L.kept (N+(k+1)) (fun n=>(look (ZeF d (k+1)) n).map L.ps)):=ZZ (A.fun fun n' _=>by rw[ai.o])
    have M:=ZZ (z.o.trans2 C);clear A C;go_wp2;go_roundw
    case rel=>exact⟨k+1,by go_num,by omega,U,M⟩
    case measure=>simp[intOf];omega
  ·have aI:Hid (k=K):=ZZ (by omega)
   obtain⟨va,vn,vc,aq⟩:=ZhH a.o.rest.row;obtain⟨d4,e4⟩:=ad.o.cell 4 rfl;obtain⟨Z,-⟩:=ad.o.cell 2 rfl;have az:wr.cell? ⟨p,4,none⟩=some L.wv:=d4;rw[aq] at az;have ae:=ZZ (ad.o.set 4 (.slice none 0 0));have am:Hid (Zct (wr.setCell ⟨p,4,none⟩ (.slice none 0 0)) L.now N (fun n=>(look (Zbk d) n).map L.ps)):=ZZ (a.o.rest.now.keep ((Below.heap_setCell _ _ _ _ (a.o.head.neMap a.o.rest.now).symm).trans (z.o.block _ a.o.rest.now.lt (fun e=>a.o.rest.nk (Option.some.inj e)))))
   have af:Hid (Zct (wr.setCell ⟨p,4,none⟩ (.slice none 0 0)) L.kept (N+k) (fun n=>(look (ZeF d k) n).map L.ps)):=ZZ (V.o.keep (Below.heap_setCell _ _ _ _ (a.o.head.neMap a.o.rest.kept).symm))
   obtain⟨D,G⟩:∃ D,D=wr.setCell ⟨p,4,none⟩ (.slice none 0 0):=⟨_,rfl⟩
   have aL:Hid (Zap F w D):=ZZ (by
    rw[G]
    exact(ay.o.trans (Zap.ofGrown z.o (fun j e _=>by obtain rfl:=Option.some.inj e;exact a.o.rest.fk)) (fun _ _ i=>i)).setCell 4 (fun _=>a.o.fh) _)
   have aV:Hid (∀ j,F j->j≠p->j≠L.kept->D.heap[j]?=W.heap[j]?):=ZZ (fun j i t v=>by
    rw[G,Below.heap_setCell _ _ _ _ t]
    exact z.o.block j (a.o.lt j i) (fun e=>v (Option.some.inj e)))
   have aR:Hid (W.heap.size<=D.heap.size):=ZZ (by rw[G];have:=z.o.size;simpa using this)
   rw[<-G] at ae am af;have ax:=ZZ G;clear aq d4 G V ah
   go_upto_region 6 with fail
   rw[<-ax.o];clear ax az e4 Z;obtain⟨Z,-⟩:=ae.o.cell 2 rfl
   go_wp2_with(first | (with_reducible refine Zmn D rfl _ rfl L.now N _ rfl am.o ?_);intro y aD ac)
   have ak:=ZZ (ae.o.keep (ac.block p ae.o.lt (fun e=>(a.o.head.neMap a.o.rest.now) (Option.some.inj e))))
   have au:=ZZ (af.o.keep (ac.block _ af.o.lt (fun e=>a.o.rest.nk (Option.some.inj e).symm)))
   have aM:=ZZ aD;have al:=ZZ ac;clear aD ac Z;have Z:y.cell? ⟨p,2,none⟩=some (.map (some L.now)):=(ak.o.cell 2 rfl).1;have d3:y.cell? ⟨p,3,none⟩=some (.map (some L.kept)):=(ak.o.cell 3 rfl).1;have aS:N+k<=10000000:=by omega
   have ap:Hid (∀ (X:World) (b n:Nat),Zct X b n (fun n=>(look (ZeF d k) n).map L.ps)->Zct X b N (fun n=>(look (ZeF d k) n).map L.ps)):=ZZ (fun _ _ _ hm=>(hm.tight (l:=(ZeF d k).map Prod.fst) (fun q _ hq=>by
    cases e:look (ZeF d k) q with
    | none=>rw[e] at hq;cases hq
    | some f=>exact List.mem_map.2 ⟨(q,f),(Zcz (an.o.dirs k).rise q f).1 e,rfl⟩)).mono (by
     have t:=Zey d k;have v:=aQ.o.names;simp only [List.length_map]
     omega))
   have aT:=ZZ (Zzc (w:=y.drew) (aM.o.keep rfl) (au.o.keep rfl) a.o.rest.nk aS)
   go_upto_region 7 with fail
   go_region_with
    (first
     | (go_at_call 73;refine aT.o.mono ?_;rintro e W4 ⟨rfl,ar,aA⟩;have aU:=ZZ ar;have Y:=ZZ aA;clear ar aA))
   all_goals
    go_wp2;go_end0;have aJ:y.heap.size<=W4.heap.size:=Y.o.size;have ab:∀ j,j<y.heap.size->j≠L.now->W4.heap[j]?=y.heap[j]?:=fun j hj hn=>Y.o.block j hj (fun e=>hn (Option.some.inj e))
    have aZ:=al.o.size;have a0:=aR.o;have aK:p<y.heap.size:=by have:=a.o.head.lt;omega
    have aH:L.kept<y.heap.size:=by have:=a.o.rest.kept.lt;omega
    rw[<-aI.o];refine⟨rfl,a.o.lost (l:=ZeF d k) (by omega) (fun j i t v E=>?_) ?_ (ap.o _ _ _ aU.o) (ap.o _ _ _ (au.o.keep (ab _ aH (Ne.symm a.o.rest.nk)))),?_⟩
    ·have hj:=a.o.lt j i
     rw[ab j (by omega) v,al.o.block j (by omega) (fun e=>v (Option.some.inj e))]
     exact aV.o j i t E
    ·exact ak.o.keep (ab p aK (a.o.head.neMap a.o.rest.now))
    ·have o3:Zap F D y:=Zap.ofGrown al.o (fun j e _=>by obtain rfl:=Option.some.inj e;exact a.o.rest.fn)
     have o4:Zap F y W4:=⟨Y.o.os,Y.o.tape,Y.o.output,aJ,fun j hj hn=>ab j hj (fun e=>hn (by rw[e];exact a.o.rest.fn))⟩
     exact(aL.o.trans o3 (fun _ _ i=>i)).trans o4 (fun _ _ i=>i)
theorem Zuu (h:Own w 0 v l):∃ ao cap,v=.slice ao l.length cap∧l.length<=cap∧((ao=none∧cap=0)∨∃ g,ao=some ⟨g,0,none⟩):=ZwH h
theorem ZaM.cutFile {f k:Nat} (h:ZaM F w p L d u N) (l:f<d.files.length) (n:L.vs f=.slice ao (fl d.files f).b.length cap) (t:k<=(fl d.files f).b.length):
 ZaM F ((w.setCell ⟨L.ps f,1,none⟩ (.int .i64 (k:Int))).setCell ⟨L.ps f,0,none⟩ (.slice ao k cap)) p { L with vs:=fun i=>if i=f then .slice ao k cap else L.vs i } { d with files:=d.files.set f ⟨(fl d.files f).b.take k,k⟩ } u N:=by
 have c:=h.rest.file f l
 have y:∀ g,(L.vs f).ownBlock=some g->g≠L.ps f:=fun g a=>by
  obtain⟨z,x⟩:=Zeh c.own a;exact x.ne c.box (by decide)
 have m:(Value.slice ao k cap).ownBlock=(L.vs f).ownBlock:=by rw[n];cases ao <;> rfl
 have v:Own w 0 (.slice ao k cap) ((fl d.files f).b.take k):=by
  have:=c.own;rw[n] at this;exact this.front k t
 refine h.setFile (F':=F) l (fun j _ q _=>by rw[Below.heap_setCell _ _ _ _ q,Below.heap_setCell _ _ _ _ q]) ⟨(c.box.set 1 _).set 0 _,Zae v fun g a=>?_⟩ (.inl m) (fun _ e=>e) (fun g a=>h.rest.fv f l g (by rw[<-m];exact a)) (fun j e=>by simpa using h.lt j e)
 have:=y g (by rw[<-m];exact a)
 rw[Below.heap_setCell _ _ _ _ this,Below.heap_setCell _ _ _ _ this]
theorem ZwI (h:n<=1000000000000000):IntKind.i64.wrap (n:Int)=(n:Int):=by
 rw[IntKind.wrap_i64];omega
theorem ZeM {l:Dir} {i:Nat} (h:i<l.length):l.take (i+1)=l.take i++[l[i]]:=List.take_succ_eq_append_getElem h
theorem ZiD {l:Dir} (h:ZeQ l) {i:Nat} (c:i<l.length):∀ p ∈ l.take i,p.2≠l[i].2:=by
 intro p b;have a:ZeQ (l.take (i+1)):=List.Pairwise.sublist (List.take_sublist _ _) h;rw[ZeM c] at a;exact(List.pairwise_append.1 a).2.2 p b _ (List.mem_singleton.2 rfl)
theorem ZpC (keep:List Int) {l:Dir} (h:ZeQ l) {i:Nat} (a:i<l.length) (fs:List Fl):Zaw keep (l.take (i+1)) 0 fs=(Zaw keep (l.take i) 0 fs).set l[i].2 (ZmL (fl fs l[i].2) (ZjB keep i)):=by
 rw[ZeM a,Zkc,Zet keep _ 0 fs _ (ZiD h a)];have:(l.take i).length=i:=by rw[length_take];omega
 rw[this,Nat.zero_add]
theorem Zuv (keep:List Int) {l:Dir} (h:ZeQ l) {i:Nat} (a:i<l.length) {fs:List Fl} (g:l[i].2<fs.length) (f:∀ x ∈ fs,x.k<=x.b.length):
 ZdE (Zaw keep (l.take (i+1)) 0 fs) (l.take (i+1))=ZdE (Zaw keep (l.take i) 0 fs) (l.take i)+(ZmL (fl fs l[i].2) (ZjB keep i)).k:=by
 rw[ZpC keep h a];have j:ZdE ((Zaw keep (l.take i) 0 fs).set l[i].2 (ZmL (fl fs l[i].2) (ZjB keep i))) (l.take i)=ZdE (Zaw keep (l.take i) 0 fs) (l.take i):=ZnW fun p d=>by rw[ZcF (fun e=>ZiD h a p d e.symm)]
 have c:(fl ((Zaw keep (l.take i) 0 fs).set l[i].2 (ZmL (fl fs l[i].2) (ZjB keep i))) l[i].2).b.length=(ZmL (fl fs l[i].2) (ZjB keep i)).k:=by
  rw[Zfg (by rw[Zci];exact g),ZsV (Zkd f _)]
 rw[ZeM a,ZgZ,j,ZcU,ZjS,c];rfl
theorem ZfX (keep:List Int):∀ (l:Dir) (i:Nat) (fs:List Fl),(∀ x ∈ fs,x.b.length<=T)->(∀ p ∈ l,p.2<fs.length)->∀ x ∈ Zaw keep l i fs,x.b.length<=T
 | [],_,_,h,_=>h
 | p::l,i,fs,h,hl=>by
  rw[Zaw];refine ZfX keep l (i+1) _ (fun x a=>?_) (fun q c=>by rw[List.length_set];exact hl q (List.mem_cons_of_mem _ c))
  rcases List.mem_or_eq_of_mem_set a with a | rfl
  ·exact h x a
  ·have:=h _ (ZeS (hl p (List.mem_cons_self ..)))
   simp only [ZmL,length_take];omega
theorem ZnZ (vk:Value) (keep:List Int) (w:World) (h:ZaM F w p L d u N) (hw:d.waits=[]) (aA:OkD d) (aC:Bnd d N T) (hN:N<=1000000) (hT:T<=1000000000) (hr:RdI w vk keep) (aI:keep=[]∨∀ k,vk.ownBlock=some k->¬ F k) (bq:keep.length<=1000000000):
 Calls prog 32 #[ptr p,vk] w fun e w'=>e=.returned (.tuple #[])∧(∃ L',ZaM F w' p L' { d with files:=Zaw keep d.kept 0 d.files } (ZdE (Zaw keep d.kept 0 d.files) d.kept:Nat) N)∧Zap F w w':=by
 have H:=ZZ h;have aO:=ZZ aA;have aV:=ZZ aC;have aK:=ZZ hr;have be:=ZZ aI;obtain⟨⟨-,c1,-,-,-,-⟩,f1,-⟩:=h.cells;obtain⟨ka,kc,rfl,-⟩:=hr;obtain⟨l,hl⟩:∃ l,l=d.kept:=⟨_,rfl⟩;have aP:Hid (Zbk d=l):=ZZ (by unfold Zbk;rw[hw,hl];rfl)
 have aS:Hid (l.length<=N):=ZZ (by have:=aC.names;rw[hl];omega)
 have X:Hid (OkL d.files.length l):=ZZ (by rw[hl];exact aA.kept)
 have a3:=ZZ hl;have ac:=ZZ (h.setHead 1 (.int .i64 0) (d':=d) (u':=0) ⟨rfl,rfl,rfl⟩ rfl);have av:Hid (Zap F w (w.setCell ⟨p,1,none⟩ (.int .i64 0))):=ZZ ((Zap.refl _ _).setCell 1 (fun _=>h.fh) _)
 obtain⟨W1,aG⟩:∃ W1,W1=w.setCell ⟨p,1,none⟩ (.int .i64 0):=⟨_,rfl⟩;rw[<-aG] at ac av;have a0:=ZZ (ZhJ W1 ac.o aA hN);have aW:=ZZ (aK.o.onlyE av.o aI);have a2:=ZZ aG;clear aG h aA aC aI hl hw
 go_enter func32,ntmps32
 go_upto_region 1 with fail
 rw[<-a2.o];clear a2 c1 f1
 go_wp2_with fail
 refine a0.o.mono ?_;rintro e W2 ⟨vn,rfl,az,aq⟩;rw[aP.o] at az
 have bc:Hid (∀ x ∈ l.map Prod.fst,I64 x):=ZZ (fun x hx=>by
  obtain⟨q,hq,rfl⟩:=List.mem_map.1 hx
  exact Zfr (X.o.may q hq).1)
 have aU:=ZZ (az.rd bc.o)
 have bh:Hid (∀ k,vn.ownBlock=some k->¬ F k):=ZZ (fun k hk hf=>by
  have E:=(World.ownsRow.lt az k hk).1;have M:=ac.o.lt k hf
  omega)
 have bg:Hid (ZaM F W2 p L d 0 N):=ZZ (ac.o.keep (fun k hf=>aq.block k (ac.o.lt k hf)) aq.size)
 have a9:Hid (Zap F w W2):=ZZ (av.o.trans (G:=fun _=>False) (Zap.ofBelow aq) (fun _ _ hf=>hf.elim))
 have a5:=ZZ (aW.o.below aq zL);obtain⟨na,nc,rfl,-⟩:=aU.o;clear az aq a0 aW aK ac av H;have bb:(l.map Prod.fst).length=l.length:=List.length_map ..;rw[bb];go_wp2
 go_loopw[14] (fun vi wr=>∃ i:Nat,vi=.int .i64 (i:Int)∧i<=l.length∧∃ z,Hid (ZaM F wr p z { d with files:=Zaw keep (l.take i) 0 d.files } (ZdE (Zaw keep (l.take i) 0 d.files) (l.take i):Nat) N)∧Hid (Zap F W2 wr)) (fun vi _=>l.length-(intOf vi).toNat)
 case atStart=>exact⟨0,rfl,Nat.zero_le _,L,by simpa[Zaw,ZdE] using bg,ZZ (Zap.refl _ _)⟩
 case round=>
  obtain⟨i,rfl,br,z,D,al⟩:=hrel;by_cases V:i<l.length
  case neg=>
   have hi:i=l.length:=by omega
   subst hi;rw[List.take_length,a3.o] at D;go_wp2;go_end0;exact⟨rfl,⟨z,D.o⟩,a9.o.trans al.o (fun _ _ hf=>hf)⟩
  obtain⟨n,f,af⟩:∃ n f,l[i]=(n,f):=⟨_,_,rfl⟩;have ay:(n,f) ∈ l:=by rw[<-af];exact List.getElem_mem V
  have aE:f<d.files.length:=(X.o.may _ ay).2;have aQ:I64 n:=Zfr (X.o.may _ ay).1;have aM:(Zaw keep (l.take i) 0 d.files).length=d.files.length:=Zci _ _ _ _;obtain⟨x,hx⟩:∃ x,x=fl d.files f:=⟨_,rfl⟩
  have aj:fl (Zaw keep (l.take i) 0 d.files) f=x:=by
   rw[hx];refine Zet keep _ 0 _ _ fun q hq=>?_
   have:=ZiD X.o.apart V q hq;rw[af] at this;exact this
  have aa:Hid (Zpp wr (z.ps f) (z.vs f) x):=ZZ (by
   have:=D.o.rest.file f (by show f<(Zaw keep (l.take i) 0 d.files).length;omega)
   rw[<-aj]
   exact this)
  have a6:x.k<=x.b.length:=by rw[hx];exact Zkd aO.o.keep f
  have bf:x.b.length<=T:=by rw[hx];exact aV.o.bytes _ (ZeS aE)
  obtain⟨ao,cap,aw,ba,bk⟩:=Zuu aa.o.own;have B:wr.cell? ⟨z.ps f,0,none⟩=some (.slice ao x.b.length cap):=by rw[<-aw];exact(aa.o.box.cell 0 rfl).1
  have y0:wr.frozen? ⟨z.ps f,0,none⟩=false:=(aa.o.box.cell 0 rfl).2;have g1:wr.cell? ⟨z.ps f,1,none⟩=some (.int .i64 (x.k:Int)):=(aa.o.box.cell 1 rfl).1;have y1:wr.frozen? ⟨z.ps f,1,none⟩=false:=(aa.o.box.cell 1 rfl).2;obtain⟨U,hU⟩:∃ U:Nat,U=ZdE (Zaw keep (l.take i) 0 d.files) (l.take i):=⟨_,rfl⟩
  have bp:U<=1000000000000000:=by
   rw[hU];have E:=Zrs (T:=T) (fs:=Zaw keep (l.take i) 0 d.files) (ZfX keep _ 0 _ aV.o.bytes (fun q hq=>(X.o.may q (List.mem_of_mem_take hq)).2)) (l.take i) (fun q hq=>by rw[aM];exact(X.o.may q (List.mem_of_mem_take hq)).2)
   have M:(l.take i).length<=N:=by have:=aS.o;rw[length_take];omega
   have h3:(l.take i).length*T<=1000000*1000000000:=Nat.mul_le_mul (by omega) hT
   omega
  rw[<-hU] at D;have k1:wr.cell? ⟨p,1,none⟩=some (.int .i64 (U:Int)):=D.o.cells.1.2.1;have j1:wr.frozen? ⟨p,1,none⟩=false:=D.o.cells.2.1;have k2:wr.cell? ⟨p,2,none⟩=some (.map (some z.now)):=D.o.cells.1.2.2.1
  have aD:(Instr.lookup 65 (.map (some z.now)) (.int .i64 n) false).run prog wr=.ok (.pointer (some ⟨z.ps f,0,none⟩)) wr:=by
   have E:=D.o.rest.now.look1 aQ
   have M:look (Zbk { d with files:=Zaw keep (l.take i) 0 d.files }) n=some f:=by
    show look (Zbk d) n=some f;rw[aP.o];exact(Zcz X.o.rise n f).2 ay
   rw[M] at E;exact E
  obtain⟨nb,ap,rfl,aL⟩:∃ nb ap,na=some ⟨nb,ap,none⟩∧wr.cell? ⟨nb,ap+i,none⟩=some (.int .i64 n):=by
   have E:=aU.o.only al.o bh.o;obtain⟨a',c',ai,_,_,_,_,h6⟩:=E;simp only [Value.slice.injEq] at ai;obtain⟨rfl,_,rfl⟩:=ai;rcases h6 with h6 | ⟨nb,ap,rfl,h7⟩
   ·have:l=[]:=by simpa using h6
    rw[this] at V;simp at V
   ·refine⟨nb,ap,rfl,?_⟩
    have h8:=h7 i (by simpa using V)
    rw[h8];simp[List.getD,V,af]
  obtain⟨A,hA⟩:∃ A,A=ZjB keep i:=⟨_,rfl⟩;obtain⟨m,hm⟩:∃ m,m=x.b.length-x.k:=⟨_,rfl⟩;have aT:(x.b.length:Int)-(x.k:Int)=(m:Int):=by omega
  obtain⟨sh,aB⟩:∃ sh,sh=Zcv A m:=⟨_,rfl⟩;have bd:sh<=m:=by rw[aB];exact Zhq _ _
  obtain⟨y,aJ⟩:∃ y,y=x.k+sh:=⟨_,rfl⟩;have a4:(x.k:Int)+(sh:Int)=(y:Int):=by omega
  have a1:y<=x.b.length:=by omega
  have ae:Hid (∀ W,Calls prog 72 #[.int .i64 A,.int .i64 (m:Int)] W fun e w'=>e=.returned (.int .i64 (sh:Int))∧w'=W):=ZZ (fun W=>by rw[aB];exact Zps A m (by omega) W)
  have aX:Hid (ZmL x A=⟨x.b.take y,y⟩):=ZZ (by rw[aJ,aB,hm];rfl)
  have aH:Hid (ZaM F (((wr.setCell ⟨z.ps f,1,none⟩ (.int .i64 (y:Int))).setCell ⟨z.ps f,0,none⟩ (.slice ao y cap)).setCell ⟨p,1,none⟩ (.int .i64 ((U:Int)+(y:Int)))) p { z with vs:=fun j=>if j=f then .slice ao y cap else z.vs j } { d with files:=Zaw keep (l.take (i+1)) 0 d.files } (ZdE (Zaw keep (l.take (i+1)) 0 d.files) (l.take (i+1)):Nat) N):=ZZ (by
   have E:=D.o.cutFile (f:=f) (k:=y) (ao:=ao) (cap:=cap) (by show f<(Zaw keep (l.take i) 0 d.files).length;omega) (by show z.vs f=.slice ao (fl (Zaw keep (l.take i) 0 d.files) f).b.length cap;rw[aj];exact aw) (by show y<=(fl (Zaw keep (l.take i) 0 d.files) f).b.length;rw[aj];exact a1)
   have M:=Zuv keep X.o.apart V (fs:=d.files) (by rw[af];exact aE) aO.o.keep
   have h3:=ZpC keep X.o.apart V d.files;rw[af,<-hx,<-hA,aX.o] at M h3;rw[M,h3,<-hU]
   dsimp only at E
   rw[aj] at E;have e1:((U+y:Nat):Int)=(U:Int)+(y:Int):=by omega
   show ZaM F _ p _ _ ((U+y:Nat):Int) N;rw[e1]
   exact E.setHead 1 _ ⟨rfl,rfl,rfl⟩ rfl)
  have I:Hid (Zap F W2 (((wr.setCell ⟨z.ps f,1,none⟩ (.int .i64 (y:Int))).setCell ⟨z.ps f,0,none⟩ (.slice ao y cap)).setCell ⟨p,1,none⟩ (.int .i64 ((U:Int)+(y:Int))))):=ZZ (((al.o.setCell 1 (fun _=>D.o.rest.fp f (by show f<(Zaw keep (l.take i) 0 d.files).length;omega)) _).setCell 0 (fun _=>D.o.rest.fp f (by show f<(Zaw keep (l.take i) 0 d.files).length;omega)) _).setCell 1 (fun _=>D.o.fh) _)
  have ag:Hid (p≠z.ps f):=ZZ (D.o.head.ne aa.o.box (by decide))
  obtain⟨P,hP⟩:∃ P,P=z.ps f:=⟨_,rfl⟩;have an:Hid (Bk 117 wr (z.ps f) #[.slice ao x.b.length cap,.int .i64 (x.k:Int)]):=ZZ (by rw[<-aw];exact aa.o.box)
  obtain⟨DI,aR⟩:∃ DI,DI={ d with files:=Zaw keep (l.take i) 0 d.files }:=⟨_,rfl⟩
  have aN:Hid (Bk 69 wr p (ZiC z DI (U:Int))):=ZZ (by rw[aR];exact D.o.head)
  clear aR;rw[<-hP] at B y0 g1 y1 aD aH I ag an;obtain⟨O,aZ⟩:∃ O,O=x.b.length:=⟨_,rfl⟩;obtain⟨xk,aY⟩:∃ xk,xk=x.k:=⟨_,rfl⟩;rw[<-aZ] at B aT a1 bf ba an;rw[<-aY] at g1 aT a4 an;have bi:y<=cap:=by omega
  have HA:=ZZ hA;have a7:=ZZ (a5.o.onlyE al.o be.o);clear af ay aE aQ aM hx aj a6 aw hU hA hm aB bd aJ hP aZ aY aa D al aX;have ax:=ZZ V;have bn:i<=1000000:=by have:=aS.o;omega
  have bj:IntKind.i64.wrap (m:Int)=(m:Int):=ZwI (by omega)
  have bm:IntKind.i64.wrap (y:Int)=(y:Int):=ZwI (by omega)
  have ab:Hid ((wr.setCell ⟨P,1,none⟩ (.int .i64 (y:Int))).cell? ⟨P,0,none⟩=some (.slice ao O cap)):=ZZ (by
   rw[World.cell?_setCell_other _ _ _ _ (by intro h;injection h with _ h;cases h)]
   exact B)
  by_cases ad:keep.length=0
  ·have e0:A=0:=by rw[HA.o];exact if_pos ad
   subst e0;have bx:decide ((keep.length:Int)>0)=false:=decide_eq_false (by omega)
   have bt:decide (0<keep.length)=false:=decide_eq_false (by omega)
   clear ad
   go_upto_region 7 with fail
   clear aL aD k2
   go_cut[] (fun wd=>Hid (∃ q,wd=(wr.setCell ⟨P,1,none⟩ (.int .i64 (y:Int))).drewN q))
   case first=>
    refine wp_region_held_drew (S:=fun w'=>w'.cell? ⟨P,0,none⟩=some (.slice ao O cap)) (by kernel_rfl) (by exact B) (fun C=>?_)
    refine wpAnyH_take (i:=0) (v:=?_) rfl (by kernel_rfl) (by kernel_rfl) (by kernel_rfl) (fun _ _ _ h=>h) (Or.inl ⟨by rfl,?_⟩) (by assumption) ?_
    rotate_left
    ·intro g c
     go_simp
     try with_reducible rfl
    simp only [Act.put,getElem_toArray,getElem_cons_zero,setIfInBounds_toArray,set_cons_zero,set_cons_succ];refine wpAnyH_take (i:=1) (v:=?_) rfl (by kernel_rfl) (by kernel_rfl) (by kernel_rfl) (fun _ _ _ h=>h) (Or.inl ⟨by rfl,?_⟩) (by assumption) ?_
    rotate_left
    ·intro g c
     go_simp
     try with_reducible rfl
    simp only [Act.put,getElem_toArray,getElem_cons_zero,getElem_cons_succ,setIfInBounds_toArray,set_cons_zero,set_cons_succ];refine wpAnyH_take (i:=2) (v:=?_) rfl (by kernel_rfl) (by kernel_rfl) (by kernel_rfl) (fun _ _ _ h=>h) (Or.inl ⟨by rfl,?_⟩) (by assumption) ?_
    rotate_left
    ·intro g c
     go_simp
     try with_reducible rfl
    simp only [Act.put,getElem_toArray,getElem_cons_zero,getElem_cons_succ,setIfInBounds_toArray,set_cons_zero,set_cons_succ];refine wpAnyH_take (i:=4) (v:=?_) rfl (by kernel_rfl) (by kernel_rfl) (by kernel_rfl) (fun _ _ _ h=>h) (Or.inl ⟨by rfl,?_⟩) (by assumption) ?_
    rotate_left
    ·intro g c
     go_simp
     try with_reducible rfl
    simp only [Act.put,getElem_toArray,getElem_cons_zero,getElem_cons_succ,setIfInBounds_toArray,set_cons_zero,set_cons_succ];refine wpAnyH_take (i:=5) (v:=?_) rfl (by kernel_rfl) (by kernel_rfl) (by kernel_rfl) (fun _ _ _ h=>h) (Or.inl ⟨by rfl,?_⟩) (by assumption) ?_
    rotate_left
    ·intro g c
     go_simp
     try with_reducible rfl
    simp only [Act.put,getElem_toArray,getElem_cons_zero,getElem_cons_succ,setIfInBounds_toArray,set_cons_zero,set_cons_succ];refine wpAnyH_take (i:=6) (v:=?_) rfl (by kernel_rfl) (by kernel_rfl) (by kernel_rfl) (fun _ _ _ h=>h) (Or.inl ⟨by rfl,?_⟩) (by assumption) ?_
    rotate_left
    ·intro g c
     go_simp
     try with_reducible rfl
    simp only [Act.put,getElem_toArray,getElem_cons_zero,getElem_cons_succ,setIfInBounds_toArray,set_cons_zero,set_cons_succ];refine wpAnyH_take (i:=7) (v:=?_) rfl (by kernel_rfl) (by kernel_rfl) (by kernel_rfl) (fun _ _ _ h=>h) (Or.inl ⟨by rfl,?_⟩) (by assumption) ?_
    rotate_left
    ·intro g c
     go_simp
     try with_reducible rfl
    simp only [Act.put,getElem_toArray,getElem_cons_zero,getElem_cons_succ,setIfInBounds_toArray,set_cons_zero,set_cons_succ];refine wpAnyH_take (i:=8) (v:=?_) rfl (by kernel_rfl) (by kernel_rfl) (by kernel_rfl) (fun _ _ _ h=>h) (Or.inl ⟨by rfl,?_⟩) (by assumption) ?_
    rotate_left
    ·intro g c
     go_simp
     try with_reducible rfl
    simp only [Act.put,getElem_toArray,getElem_cons_zero,getElem_cons_succ,setIfInBounds_toArray,set_cons_zero,set_cons_succ];refine wpAnyH_take (i:=9) (v:=?_) rfl (by kernel_rfl) (by kernel_rfl) (by kernel_rfl) (fun _ _ _ h=>h) (Or.inl ⟨by rfl,?_⟩) (by assumption) ?_
    rotate_left
    ·intro g c
     go_simp
     try with_reducible rfl
    simp only [Act.put,getElem_toArray,getElem_cons_zero,getElem_cons_succ,setIfInBounds_toArray,set_cons_zero,set_cons_succ];refine wpAnyH_take (i:=10) (v:=?_) rfl (by kernel_rfl) (by kernel_rfl) (by kernel_rfl) (fun _ _ _ h=>h) (Or.inl ⟨by rfl,?_⟩) (by assumption) ?_
    rotate_left
    ·intro g c
     go_simp
     try with_reducible rfl
    simp only [Act.put,getElem_toArray,getElem_cons_zero,getElem_cons_succ,setIfInBounds_toArray,set_cons_zero,set_cons_succ];refine wpAnyH_take (i:=11) (v:=?_) rfl (by kernel_rfl) (by kernel_rfl) (by kernel_rfl) (fun _ _ _ h=>h) (Or.inl ⟨by rfl,?_⟩) (by assumption) ?_
    rotate_left
    ·intro g c
     go_simp
     try with_reducible rfl
    simp only [Act.put,getElem_toArray,getElem_cons_zero,getElem_cons_succ,setIfInBounds_toArray,set_cons_zero,set_cons_succ];refine wpAnyH_take (i:=12) (v:=?_) rfl (by kernel_rfl) (by kernel_rfl) (by kernel_rfl) (fun _ _ _ h=>h) (Or.inl ⟨by rfl,?_⟩) (by assumption) ?_
    rotate_left
    ·intro g c
     go_simp
     try with_reducible rfl
    simp only [Act.put,getElem_toArray,getElem_cons_zero,getElem_cons_succ,setIfInBounds_toArray,set_cons_zero,set_cons_succ];refine wpAnyH_ready (rs:=[3,13]) (by kernel_rfl) (by simp) ?_
    refine AllReadyH.cons rfl (fun t a=>?_) (AllReadyH.cons rfl (fun t a=>?_) AllReadyH.nil)
    ·go_simp
     refine a.out _ _ (by exact B) (fun C=>?_)
     clear a t;refine wpAnyH_ready (rs:=[13]) (by kernel_rfl) (by simp) ?_
     refine AllReadyH.cons rfl (fun t a=>?_) AllReadyH.nil
     go_simp
     refine a.out _ _ (by exact B) (fun C=>?_)
     clear a t;refine wpAnyH_take (i:=14) (v:=?_) rfl (by kernel_rfl) (by kernel_rfl) (by kernel_rfl) (fun _ _ _ h=>h) (Or.inl ⟨by rfl,?_⟩) (by assumption) ?_
     rotate_left
     ·intro g c
      go_simp
      try with_reducible rfl
     simp only [Act.put,getElem_toArray,getElem_cons_zero,getElem_cons_succ,setIfInBounds_toArray,set_cons_zero,set_cons_succ];refine wpAnyH_ready (rs:=[15]) (by kernel_rfl) (by simp) ?_
     refine AllReadyH.cons rfl (fun t a=>?_) AllReadyH.nil
     go_simp
     go_wp2_with((go_at_call 72;refine(ae.o _).mono ?_;rintro e w5 ⟨rfl,rfl⟩))
     refine a.out _ _ (by exact B) (fun C=>?_)
     clear a t;refine wpAnyH_take (i:=16) (v:=?_) rfl (by kernel_rfl) (by kernel_rfl) (by kernel_rfl) (fun _ _ _ h=>h) (Or.inl ⟨by rfl,?_⟩) (by assumption) ?_
     rotate_left
     ·intro g c
      go_simp
      try with_reducible rfl
     simp only [Act.put,getElem_toArray,getElem_cons_zero,getElem_cons_succ,setIfInBounds_toArray,set_cons_zero,set_cons_succ];refine wpAnyH_take (i:=17) (v:=?_) rfl (by kernel_rfl) (by kernel_rfl) (by kernel_rfl) (fun _ _ _ h=>h) (Or.inl ⟨by rfl,?_⟩) (by assumption) ?_
     rotate_left
     ·intro g c
      go_simp
      try with_reducible rfl
     simp only [Act.put,getElem_toArray,getElem_cons_zero,getElem_cons_succ,setIfInBounds_toArray,set_cons_zero,set_cons_succ];refine wpAnyH_take (i:=18) (v:=?_) rfl (by kernel_rfl) (by kernel_rfl) (by kernel_rfl) (fun _ _ _ h=>h) (Or.inl ⟨by rfl,?_⟩) (by assumption) ?_
     rotate_left
     ·intro g c
      go_simp
      try with_reducible rfl
     simp only [Act.put,getElem_toArray,getElem_cons_zero,getElem_cons_succ,setIfInBounds_toArray,set_cons_zero,set_cons_succ];refine wpAnyH_ready (rs:=[19]) (by kernel_rfl) (by simp) ?_
     refine AllReadyH.cons rfl (fun t a=>?_) AllReadyH.nil
     go_simp
     refine a.out _ _ (by exact ab.o) (fun C=>?_)
     clear a t;refine wpAnyH_done (by kernel_rfl) ?_ _
     go_wp2_with fail
     go_meet
     exact ZZ ⟨1,rfl⟩
    ·go_simp
     refine a.out _ _ (by exact B) (fun C=>?_)
     clear a t;refine wpAnyH_take (i:=14) (v:=?_) rfl (by kernel_rfl) (by kernel_rfl) (by kernel_rfl) (fun _ _ _ h=>h) (Or.inl ⟨by rfl,?_⟩) (by assumption) ?_
     rotate_left
     ·intro g c
      go_simp
      try with_reducible rfl
     simp only [Act.put,getElem_toArray,getElem_cons_zero,getElem_cons_succ,setIfInBounds_toArray,set_cons_zero,set_cons_succ];refine wpAnyH_ready (rs:=[3,15]) (by kernel_rfl) (by simp) ?_
     refine AllReadyH.cons rfl (fun t a=>?_) (AllReadyH.cons rfl (fun t a=>?_) AllReadyH.nil)
     ·go_simp
      refine a.out _ _ (by exact B) (fun C=>?_)
      clear a t;refine wpAnyH_ready (rs:=[15]) (by kernel_rfl) (by simp) ?_
      refine AllReadyH.cons rfl (fun t a=>?_) AllReadyH.nil
      go_simp
      go_wp2_with((go_at_call 72;refine(ae.o _).mono ?_;rintro e w5 ⟨rfl,rfl⟩))
      refine a.out _ _ (by exact B) (fun C=>?_)
      clear a t;refine wpAnyH_take (i:=16) (v:=?_) rfl (by kernel_rfl) (by kernel_rfl) (by kernel_rfl) (fun _ _ _ h=>h) (Or.inl ⟨by rfl,?_⟩) (by assumption) ?_
      rotate_left
      ·intro g c
       go_simp
       try with_reducible rfl
      simp only [Act.put,getElem_toArray,getElem_cons_zero,getElem_cons_succ,setIfInBounds_toArray,set_cons_zero,set_cons_succ];refine wpAnyH_take (i:=17) (v:=?_) rfl (by kernel_rfl) (by kernel_rfl) (by kernel_rfl) (fun _ _ _ h=>h) (Or.inl ⟨by rfl,?_⟩) (by assumption) ?_
      rotate_left
      ·intro g c
       go_simp
       try with_reducible rfl
      simp only [Act.put,getElem_toArray,getElem_cons_zero,getElem_cons_succ,setIfInBounds_toArray,set_cons_zero,set_cons_succ];refine wpAnyH_take (i:=18) (v:=?_) rfl (by kernel_rfl) (by kernel_rfl) (by kernel_rfl) (fun _ _ _ h=>h) (Or.inl ⟨by rfl,?_⟩) (by assumption) ?_
      rotate_left
      ·intro g c
       go_simp
       try with_reducible rfl
      simp only [Act.put,getElem_toArray,getElem_cons_zero,getElem_cons_succ,setIfInBounds_toArray,set_cons_zero,set_cons_succ];refine wpAnyH_ready (rs:=[19]) (by kernel_rfl) (by simp) ?_
      refine AllReadyH.cons rfl (fun t a=>?_) AllReadyH.nil
      go_simp
      refine a.out _ _ (by exact ab.o) (fun C=>?_)
      clear a t;refine wpAnyH_done (by kernel_rfl) ?_ _
      go_wp2_with fail
      go_meet
      exact ZZ ⟨1,rfl⟩
     ·go_simp
      go_wp2_with((go_at_call 72;refine(ae.o _).mono ?_;rintro e w5 ⟨rfl,rfl⟩))
      refine a.out _ _ (by exact B) (fun C=>?_)
      clear a t;refine wpAnyH_ready (rs:=[3]) (by kernel_rfl) (by simp) ?_
      refine AllReadyH.cons rfl (fun t a=>?_) AllReadyH.nil
      go_simp
      refine a.out _ _ (by exact B) (fun C=>?_)
      clear a t;refine wpAnyH_take (i:=16) (v:=?_) rfl (by kernel_rfl) (by kernel_rfl) (by kernel_rfl) (fun _ _ _ h=>h) (Or.inl ⟨by rfl,?_⟩) (by assumption) ?_
      rotate_left
      ·intro g c
       go_simp
       try with_reducible rfl
      simp only [Act.put,getElem_toArray,getElem_cons_zero,getElem_cons_succ,setIfInBounds_toArray,set_cons_zero,set_cons_succ];refine wpAnyH_take (i:=17) (v:=?_) rfl (by kernel_rfl) (by kernel_rfl) (by kernel_rfl) (fun _ _ _ h=>h) (Or.inl ⟨by rfl,?_⟩) (by assumption) ?_
      rotate_left
      ·intro g c
       go_simp
       try with_reducible rfl
      simp only [Act.put,getElem_toArray,getElem_cons_zero,getElem_cons_succ,setIfInBounds_toArray,set_cons_zero,set_cons_succ];refine wpAnyH_take (i:=18) (v:=?_) rfl (by kernel_rfl) (by kernel_rfl) (by kernel_rfl) (fun _ _ _ h=>h) (Or.inl ⟨by rfl,?_⟩) (by assumption) ?_
      rotate_left
      ·intro g c
       go_simp
       try with_reducible rfl
      simp only [Act.put,getElem_toArray,getElem_cons_zero,getElem_cons_succ,setIfInBounds_toArray,set_cons_zero,set_cons_succ];refine wpAnyH_ready (rs:=[19]) (by kernel_rfl) (by simp) ?_
      refine AllReadyH.cons rfl (fun t a=>?_) AllReadyH.nil
      go_simp
      refine a.out _ _ (by exact ab.o) (fun C=>?_)
      clear a t;refine wpAnyH_done (by kernel_rfl) ?_ _
      go_wp2_with fail
      go_meet
      exact ZZ ⟨1,rfl⟩
   case rest=>
    obtain⟨q7,Z⟩:=hcut.out;have K:Hid (Bk 117 wc P #[.slice ao O cap,.int .i64 (y:Int)]):=ZZ (by rw[Z];exact an.o.set 1 _)
    have ak:Hid (Bk 69 wc p (ZiC z DI (U:Int))):=ZZ (by rw[Z];exact aN.o.other P 1 _ ag.o)
    have Q:=ZZ Z;have B:wc.cell? ⟨P,0,none⟩=some (.slice ao O cap):=(K.o.cell 0 rfl).1;have y0:wc.frozen? ⟨P,0,none⟩=false:=(K.o.cell 0 rfl).2;have g1:wc.cell? ⟨P,1,none⟩=some (.int .i64 (y:Int)):=(K.o.cell 1 rfl).1;clear Z hcut;obtain⟨W7,au⟩:∃ W7,W7=wc:=⟨_,rfl⟩;rw[<-au] at K ak Q B y0 g1 ⊢;clear au
    go_upto_region 8 with fail
    go_cut[] (fun wd=>Hid (∃ q,wd=(W7.setCell ⟨P,0,none⟩ (.slice ao y cap)).drewN q))
    case first=>
     go_region
     all_goals
      go_wp2_with fail
      go_meet
      exact ZZ ⟨1,rfl⟩
    case rest=>
     obtain⟨q8,R⟩:=hcut.out;have aF:Hid (Bk 117 wc P #[.slice ao y cap,.int .i64 (y:Int)]):=ZZ (by rw[R];exact K.o.set 0 _)
     have ah:Hid (Bk 69 wc p (ZiC z DI (U:Int))):=ZZ (by rw[R];exact ak.o.other P 0 _ ag.o)
     have Y:=ZZ R;have E:wc.cell? ⟨P,1,none⟩=some (.int .i64 (y:Int)):=(aF.o.cell 1 rfl).1;have M:wc.cell? ⟨p,1,none⟩=some (.int .i64 (U:Int)):=(ah.o.cell 1 rfl).1;have h3:wc.frozen? ⟨p,1,none⟩=false:=(ah.o.cell 1 rfl).2;clear R hcut B y0 g1;obtain⟨W8,am⟩:∃ W8,W8=wc:=⟨_,rfl⟩;rw[<-am] at Y E M h3 ⊢;clear am
     go_upto_region 9 with fail
     go_region
     all_goals
      go_wp2;go_roundw
      case rel=>
       refine⟨i+1,by go_num,by have:=ax.o;omega,_,ZZ (aH.o.keep (w':=(W8.setCell ⟨p,1,none⟩ (.int .i64 ((U:Int)+(y:Int)))).drew) (fun k _=>?_) ?_),ZZ ?_⟩
       ·rw[Y.o,Q.o]
        rfl
       ·rw[Y.o,Q.o]
        exact Nat.le_refl _
       ·rw[Y.o,Q.o]
        exact⟨I.o.os,I.o.tape,I.o.output,I.o.size,I.o.block⟩
      case measure=>have:=ax.o;simp[intOf];omega
  ·obtain⟨J,hJ⟩:∃ J,J=i % keep.length:=⟨_,rfl⟩
   have a8:J<keep.length:=by rw[hJ];exact Nat.mod_lt _ (by omega)
   have bo:(i:Int) % (keep.length:Int)=(J:Int):=by rw[hJ];omega
   have eA:keep.getD J 0=A:=by rw[HA.o,hJ];exact(if_neg ad).symm
   obtain⟨kb,ar,rfl,bv⟩:∃ kb ar,ka=some ⟨kb,ar,none⟩∧wr.cell? ⟨kb,ar+J,none⟩=some (.int .i64 A):=by
    obtain⟨a',c',ai,_,_,_,_,h6⟩:=a7.o;simp only [Value.slice.injEq] at ai;obtain⟨rfl,_,rfl⟩:=ai;rcases h6 with h6 | ⟨kb,ar,rfl,h7⟩
    ·rw[h6] at ad
     simp at ad
    ·exact⟨kb,ar,rfl,by rw[h7 J a8,eA]⟩
   have bu:0<keep.length:=by omega
   have bw:(0:Int)<(keep.length:Int):=by omega
   clear eA hJ ad
   go_upto_region 7 with fail
   clear aL aD k2
   go_cut[] (fun wd=>Hid (∃ q,wd=(wr.setCell ⟨P,1,none⟩ (.int .i64 (y:Int))).drewN q))
   case first=>
    refine wp_region_held_drew (S:=fun w'=>w'.cell? ⟨P,0,none⟩=some (.slice ao O cap)) (by kernel_rfl) (by exact B) (fun C=>?_)
    refine wpAnyH_take (i:=0) (v:=?_) rfl (by kernel_rfl) (by kernel_rfl) (by kernel_rfl) (fun _ _ _ h=>h) (Or.inl ⟨by rfl,?_⟩) (by assumption) ?_
    rotate_left
    ·intro g c
     go_simp
     try with_reducible rfl
    simp only [Act.put,getElem_toArray,getElem_cons_zero,setIfInBounds_toArray,set_cons_zero,set_cons_succ];refine wpAnyH_take (i:=1) (v:=?_) rfl (by kernel_rfl) (by kernel_rfl) (by kernel_rfl) (fun _ _ _ h=>h) (Or.inl ⟨by rfl,?_⟩) (by assumption) ?_
    rotate_left
    ·intro g c
     go_simp
     try with_reducible rfl
    simp only [Act.put,getElem_toArray,getElem_cons_zero,getElem_cons_succ,setIfInBounds_toArray,set_cons_zero,set_cons_succ];refine wpAnyH_take (i:=2) (v:=?_) rfl (by kernel_rfl) (by kernel_rfl) (by kernel_rfl) (fun _ _ _ h=>h) (Or.inl ⟨by rfl,?_⟩) (by assumption) ?_
    rotate_left
    ·intro g c
     go_simp
     try with_reducible rfl
    simp only [Act.put,getElem_toArray,getElem_cons_zero,getElem_cons_succ,setIfInBounds_toArray,set_cons_zero,set_cons_succ];refine wpAnyH_take (i:=4) (v:=?_) rfl (by kernel_rfl) (by kernel_rfl) (by kernel_rfl) (fun _ _ _ h=>h) (Or.inl ⟨by rfl,?_⟩) (by assumption) ?_
    rotate_left
    ·intro g c
     go_simp
     try with_reducible rfl
    simp only [Act.put,getElem_toArray,getElem_cons_zero,getElem_cons_succ,setIfInBounds_toArray,set_cons_zero,set_cons_succ];refine wpAnyH_take (i:=5) (v:=?_) rfl (by kernel_rfl) (by kernel_rfl) (by kernel_rfl) (fun _ _ _ h=>h) (Or.inl ⟨by rfl,?_⟩) (by assumption) ?_
    rotate_left
    ·intro g c
     go_simp
     try with_reducible rfl
    simp only [Act.put,getElem_toArray,getElem_cons_zero,getElem_cons_succ,setIfInBounds_toArray,set_cons_zero,set_cons_succ];refine wpAnyH_take (i:=6) (v:=?_) rfl (by kernel_rfl) (by kernel_rfl) (by kernel_rfl) (fun _ _ _ h=>h) (Or.inl ⟨by rfl,?_⟩) (by assumption) ?_
    rotate_left
    ·intro g c
     go_simp
     try with_reducible rfl
    simp only [Act.put,getElem_toArray,getElem_cons_zero,getElem_cons_succ,setIfInBounds_toArray,set_cons_zero,set_cons_succ];refine wpAnyH_take (i:=7) (v:=?_) rfl (by kernel_rfl) (by kernel_rfl) (by kernel_rfl) (fun _ _ _ h=>h) (Or.inl ⟨by rfl,?_⟩) (by assumption) ?_
    rotate_left
    ·intro g c
     go_simp
     try with_reducible rfl
    simp only [Act.put,getElem_toArray,getElem_cons_zero,getElem_cons_succ,setIfInBounds_toArray,set_cons_zero,set_cons_succ];refine wpAnyH_take (i:=8) (v:=?_) rfl (by kernel_rfl) (by kernel_rfl) (by kernel_rfl) (fun _ _ _ h=>h) (Or.inl ⟨by rfl,?_⟩) (by assumption) ?_
    rotate_left
    ·intro g c
     go_simp
     try with_reducible rfl
    simp only [Act.put,getElem_toArray,getElem_cons_zero,getElem_cons_succ,setIfInBounds_toArray,set_cons_zero,set_cons_succ];refine wpAnyH_take (i:=9) (v:=?_) rfl (by kernel_rfl) (by kernel_rfl) (by kernel_rfl) (fun _ _ _ h=>h) (Or.inl ⟨by rfl,?_⟩) (by assumption) ?_
    rotate_left
    ·intro g c
     go_simp
     try with_reducible rfl
    simp only [Act.put,getElem_toArray,getElem_cons_zero,getElem_cons_succ,setIfInBounds_toArray,set_cons_zero,set_cons_succ];refine wpAnyH_take (i:=10) (v:=?_) rfl (by kernel_rfl) (by kernel_rfl) (by kernel_rfl) (fun _ _ _ h=>h) (Or.inl ⟨by rfl,?_⟩) (by assumption) ?_
    rotate_left
    ·intro g c
     go_simp
     try with_reducible rfl
    simp only [Act.put,getElem_toArray,getElem_cons_zero,getElem_cons_succ,setIfInBounds_toArray,set_cons_zero,set_cons_succ];refine wpAnyH_take (i:=11) (v:=?_) rfl (by kernel_rfl) (by kernel_rfl) (by kernel_rfl) (fun _ _ _ h=>h) (Or.inl ⟨by rfl,?_⟩) (by assumption) ?_
    rotate_left
    ·intro g c
     go_simp
     try with_reducible rfl
    simp only [Act.put,getElem_toArray,getElem_cons_zero,getElem_cons_succ,setIfInBounds_toArray,set_cons_zero,set_cons_succ];refine wpAnyH_take (i:=12) (v:=?_) rfl (by kernel_rfl) (by kernel_rfl) (by kernel_rfl) (fun _ _ _ h=>h) (Or.inl ⟨by rfl,?_⟩) (by assumption) ?_
    rotate_left
    ·intro g c
     go_simp
     try with_reducible rfl
    simp only [Act.put,getElem_toArray,getElem_cons_zero,getElem_cons_succ,setIfInBounds_toArray,set_cons_zero,set_cons_succ];refine wpAnyH_ready (rs:=[3,13]) (by kernel_rfl) (by simp) ?_
    refine AllReadyH.cons rfl (fun t a=>?_) (AllReadyH.cons rfl (fun t a=>?_) AllReadyH.nil)
    ·go_simp
     refine a.out _ _ (by exact B) (fun C=>?_)
     clear a t;refine wpAnyH_ready (rs:=[13]) (by kernel_rfl) (by simp) ?_
     refine AllReadyH.cons rfl (fun t a=>?_) AllReadyH.nil
     go_simp
     refine a.out _ _ (by exact B) (fun C=>?_)
     clear a t;refine wpAnyH_take (i:=14) (v:=?_) rfl (by kernel_rfl) (by kernel_rfl) (by kernel_rfl) (fun _ _ _ h=>h) (Or.inl ⟨by rfl,?_⟩) (by assumption) ?_
     rotate_left
     ·intro g c
      go_simp
      try with_reducible rfl
     simp only [Act.put,getElem_toArray,getElem_cons_zero,getElem_cons_succ,setIfInBounds_toArray,set_cons_zero,set_cons_succ];refine wpAnyH_ready (rs:=[15]) (by kernel_rfl) (by simp) ?_
     refine AllReadyH.cons rfl (fun t a=>?_) AllReadyH.nil
     go_simp
     go_wp2_with((go_at_call 72;refine(ae.o _).mono ?_;rintro e w5 ⟨rfl,rfl⟩))
     refine a.out _ _ (by exact B) (fun C=>?_)
     clear a t;refine wpAnyH_take (i:=16) (v:=?_) rfl (by kernel_rfl) (by kernel_rfl) (by kernel_rfl) (fun _ _ _ h=>h) (Or.inl ⟨by rfl,?_⟩) (by assumption) ?_
     rotate_left
     ·intro g c
      go_simp
      try with_reducible rfl
     simp only [Act.put,getElem_toArray,getElem_cons_zero,getElem_cons_succ,setIfInBounds_toArray,set_cons_zero,set_cons_succ];refine wpAnyH_take (i:=17) (v:=?_) rfl (by kernel_rfl) (by kernel_rfl) (by kernel_rfl) (fun _ _ _ h=>h) (Or.inl ⟨by rfl,?_⟩) (by assumption) ?_
     rotate_left
     ·intro g c
      go_simp
      try with_reducible rfl
     simp only [Act.put,getElem_toArray,getElem_cons_zero,getElem_cons_succ,setIfInBounds_toArray,set_cons_zero,set_cons_succ];refine wpAnyH_take (i:=18) (v:=?_) rfl (by kernel_rfl) (by kernel_rfl) (by kernel_rfl) (fun _ _ _ h=>h) (Or.inl ⟨by rfl,?_⟩) (by assumption) ?_
     rotate_left
     ·intro g c
      go_simp
      try with_reducible rfl
     simp only [Act.put,getElem_toArray,getElem_cons_zero,getElem_cons_succ,setIfInBounds_toArray,set_cons_zero,set_cons_succ];refine wpAnyH_ready (rs:=[19]) (by kernel_rfl) (by simp) ?_
     refine AllReadyH.cons rfl (fun t a=>?_) AllReadyH.nil
     go_simp
     refine a.out _ _ (by exact ab.o) (fun C=>?_)
     clear a t;refine wpAnyH_done (by kernel_rfl) ?_ _
     go_wp2_with fail
     go_meet
     exact ZZ ⟨1,rfl⟩
    ·go_simp
     refine a.out _ _ (by exact B) (fun C=>?_)
     clear a t;refine wpAnyH_take (i:=14) (v:=?_) rfl (by kernel_rfl) (by kernel_rfl) (by kernel_rfl) (fun _ _ _ h=>h) (Or.inl ⟨by rfl,?_⟩) (by assumption) ?_
     rotate_left
     ·intro g c
      go_simp
      try with_reducible rfl
     simp only [Act.put,getElem_toArray,getElem_cons_zero,getElem_cons_succ,setIfInBounds_toArray,set_cons_zero,set_cons_succ];refine wpAnyH_ready (rs:=[3,15]) (by kernel_rfl) (by simp) ?_
     refine AllReadyH.cons rfl (fun t a=>?_) (AllReadyH.cons rfl (fun t a=>?_) AllReadyH.nil)
     ·go_simp
      refine a.out _ _ (by exact B) (fun C=>?_)
      clear a t;refine wpAnyH_ready (rs:=[15]) (by kernel_rfl) (by simp) ?_
      refine AllReadyH.cons rfl (fun t a=>?_) AllReadyH.nil
      go_simp
      go_wp2_with((go_at_call 72;refine(ae.o _).mono ?_;rintro e w5 ⟨rfl,rfl⟩))
      refine a.out _ _ (by exact B) (fun C=>?_)
      clear a t;refine wpAnyH_take (i:=16) (v:=?_) rfl (by kernel_rfl) (by kernel_rfl) (by kernel_rfl) (fun _ _ _ h=>h) (Or.inl ⟨by rfl,?_⟩) (by assumption) ?_
      rotate_left
      ·intro g c
       go_simp
       try with_reducible rfl
      simp only [Act.put,getElem_toArray,getElem_cons_zero,getElem_cons_succ,setIfInBounds_toArray,set_cons_zero,set_cons_succ];refine wpAnyH_take (i:=17) (v:=?_) rfl (by kernel_rfl) (by kernel_rfl) (by kernel_rfl) (fun _ _ _ h=>h) (Or.inl ⟨by rfl,?_⟩) (by assumption) ?_
      rotate_left
      ·intro g c
       go_simp
       try with_reducible rfl
      simp only [Act.put,getElem_toArray,getElem_cons_zero,getElem_cons_succ,setIfInBounds_toArray,set_cons_zero,set_cons_succ];refine wpAnyH_take (i:=18) (v:=?_) rfl (by kernel_rfl) (by kernel_rfl) (by kernel_rfl) (fun _ _ _ h=>h) (Or.inl ⟨by rfl,?_⟩) (by assumption) ?_
      rotate_left
      ·intro g c
       go_simp
       try with_reducible rfl
      simp only [Act.put,getElem_toArray,getElem_cons_zero,getElem_cons_succ,setIfInBounds_toArray,set_cons_zero,set_cons_succ];refine wpAnyH_ready (rs:=[19]) (by kernel_rfl) (by simp) ?_
      refine AllReadyH.cons rfl (fun t a=>?_) AllReadyH.nil
      go_simp
      refine a.out _ _ (by exact ab.o) (fun C=>?_)
      clear a t;refine wpAnyH_done (by kernel_rfl) ?_ _
      go_wp2_with fail
      go_meet
      exact ZZ ⟨1,rfl⟩
     ·go_simp
      go_wp2_with((go_at_call 72;refine(ae.o _).mono ?_;rintro e w5 ⟨rfl,rfl⟩))
      refine a.out _ _ (by exact B) (fun C=>?_)
      clear a t;refine wpAnyH_ready (rs:=[3]) (by kernel_rfl) (by simp) ?_
      refine AllReadyH.cons rfl (fun t a=>?_) AllReadyH.nil
      go_simp
      refine a.out _ _ (by exact B) (fun C=>?_)
      clear a t;refine wpAnyH_take (i:=16) (v:=?_) rfl (by kernel_rfl) (by kernel_rfl) (by kernel_rfl) (fun _ _ _ h=>h) (Or.inl ⟨by rfl,?_⟩) (by assumption) ?_
      rotate_left
      ·intro g c
       go_simp
       try with_reducible rfl
      simp only [Act.put,getElem_toArray,getElem_cons_zero,getElem_cons_succ,setIfInBounds_toArray,set_cons_zero,set_cons_succ];refine wpAnyH_take (i:=17) (v:=?_) rfl (by kernel_rfl) (by kernel_rfl) (by kernel_rfl) (fun _ _ _ h=>h) (Or.inl ⟨by rfl,?_⟩) (by assumption) ?_
      rotate_left
      ·intro g c
       go_simp
       try with_reducible rfl
      simp only [Act.put,getElem_toArray,getElem_cons_zero,getElem_cons_succ,setIfInBounds_toArray,set_cons_zero,set_cons_succ];refine wpAnyH_take (i:=18) (v:=?_) rfl (by kernel_rfl) (by kernel_rfl) (by kernel_rfl) (fun _ _ _ h=>h) (Or.inl ⟨by rfl,?_⟩) (by assumption) ?_
      rotate_left
      ·intro g c
       go_simp
       try with_reducible rfl
      simp only [Act.put,getElem_toArray,getElem_cons_zero,getElem_cons_succ,setIfInBounds_toArray,set_cons_zero,set_cons_succ];refine wpAnyH_ready (rs:=[19]) (by kernel_rfl) (by simp) ?_
      refine AllReadyH.cons rfl (fun t a=>?_) AllReadyH.nil
      go_simp
      refine a.out _ _ (by exact ab.o) (fun C=>?_)
      clear a t;refine wpAnyH_done (by kernel_rfl) ?_ _
      go_wp2_with fail
      go_meet
      exact ZZ ⟨1,rfl⟩
   case rest=>
    obtain⟨q7,Z⟩:=hcut.out;have K:Hid (Bk 117 wc P #[.slice ao O cap,.int .i64 (y:Int)]):=ZZ (by rw[Z];exact an.o.set 1 _)
    have ak:Hid (Bk 69 wc p (ZiC z DI (U:Int))):=ZZ (by rw[Z];exact aN.o.other P 1 _ ag.o)
    have Q:=ZZ Z;have B:wc.cell? ⟨P,0,none⟩=some (.slice ao O cap):=(K.o.cell 0 rfl).1;have y0:wc.frozen? ⟨P,0,none⟩=false:=(K.o.cell 0 rfl).2;have g1:wc.cell? ⟨P,1,none⟩=some (.int .i64 (y:Int)):=(K.o.cell 1 rfl).1;clear Z hcut;obtain⟨W7,au⟩:∃ W7,W7=wc:=⟨_,rfl⟩;rw[<-au] at K ak Q B y0 g1 ⊢;clear au
    go_upto_region 8 with fail
    go_cut[] (fun wd=>Hid (∃ q,wd=(W7.setCell ⟨P,0,none⟩ (.slice ao y cap)).drewN q))
    case first=>
     go_region
     all_goals
      go_wp2_with fail
      go_meet
      exact ZZ ⟨1,rfl⟩
    case rest=>
     obtain⟨q8,R⟩:=hcut.out;have aF:Hid (Bk 117 wc P #[.slice ao y cap,.int .i64 (y:Int)]):=ZZ (by rw[R];exact K.o.set 0 _)
     have ah:Hid (Bk 69 wc p (ZiC z DI (U:Int))):=ZZ (by rw[R];exact ak.o.other P 0 _ ag.o)
     have Y:=ZZ R;have E:wc.cell? ⟨P,1,none⟩=some (.int .i64 (y:Int)):=(aF.o.cell 1 rfl).1;have M:wc.cell? ⟨p,1,none⟩=some (.int .i64 (U:Int)):=(ah.o.cell 1 rfl).1;have h3:wc.frozen? ⟨p,1,none⟩=false:=(ah.o.cell 1 rfl).2;clear R hcut B y0 g1;obtain⟨W8,am⟩:∃ W8,W8=wc:=⟨_,rfl⟩;rw[<-am] at Y E M h3 ⊢;clear am
     go_upto_region 9 with fail
     go_region
     all_goals
      go_wp2;go_roundw
      case rel=>
       refine⟨i+1,by go_num,by have:=ax.o;omega,_,ZZ (aH.o.keep (w':=(W8.setCell ⟨p,1,none⟩ (.int .i64 ((U:Int)+(y:Int)))).drew) (fun k _=>?_) ?_),ZZ ?_⟩
       ·rw[Y.o,Q.o]
        rfl
       ·rw[Y.o,Q.o]
        exact Nat.le_refl _
       ·rw[Y.o,Q.o]
        exact⟨I.o.os,I.o.tape,I.o.output,I.o.size,I.o.block⟩
      case measure=>have:=ax.o;simp[intOf];omega
theorem ZwJ (names:Int) (j:Value) (keep:List Int) (w:World) (h:Dsk F w p d N T) (A:N<=1000000) (P:T<=1000000000) (z:RdI w j keep) (D:keep=[]∨∀ k,j.ownBlock=some k->¬ F k) (E:keep.length<=1000000000):
 Calls prog 12 #[ptr p,.int .i64 names,j] w fun e w'=>e=.returned (.tuple #[])∧Dsk F w' p (Zco d names keep) N T∧Zap F w w':=by
 obtain⟨L,h,a,b,t,C⟩:=h;have H:=ZZ a;have g:=ZZ b;have I:=ZZ (And.intro t C);have Q:=ZZ z;have v:=ZZ D;have u:=ZZ (ZkM names w h a b A);obtain⟨K,c⟩:∃ K,K=Zcv names d.waits.length:=⟨_,rfl⟩;have i:=ZZ c;rw[<-c] at u;have W:Hid (OkD { d with kept:=ZeF d K,waits:=[] }):=ZZ (ZjN (fs:=d.files) (a.dirs K) a.keep)
 have M:Hid (Bnd { d with kept:=ZeF d K,waits:=[] } N T):=ZZ ⟨b.files,by have m:=Zey d K;have U:=b.names;show(ZeF d K).length+0<=N;omega,b.bytes⟩
 have G:Hid (∀ q ∈ ZeF d K,q.2<d.files.length):=ZZ (fun q hq=>((a.dirs K).may q hq).2)
 obtain⟨ka,kc,rfl,-⟩:=z;clear h a b t C D c
 go_enter func12,ntmps12
 go_wp2_with fail
 refine u.o.mono ?_;rintro e J ⟨rfl,y,f⟩;have O:=ZZ (ZnZ _ keep J y rfl W.o M.o A P (Q.o.onlyE f v.o) v.o E);have X:=ZZ f;clear y f
 go_wp2_with fail
 refine O.o.mono ?_;rintro e W2 ⟨rfl,⟨Y,l⟩,n⟩;have B:=ZZ l;have Z:=ZZ (X.o.trans n (fun _ _ S=>S))
 obtain⟨⟨-,-,-,-,-,c5⟩,-,-,-,f5⟩:=l.cells;clear l n;go_wp2;go_end0;refine⟨rfl,⟨Y,?_,H.o.crash names keep,⟨?_,?_,?_⟩,I.o.1,⟨by show(-9223372036854775808:Int)<=-1;omega,by show(-1:Int)<=9223372036854775807;omega⟩⟩,Z.o.setCell 5 (fun _=>B.o.fh) _⟩
 ·have m:=B.o.setHead 5 (.int .i64 (-1)) (d':=Zco d names keep) (u':=(ZdE (Zaw keep (ZeF d K) 0 d.files) (ZeF d K):Nat)) (by rw[i.o];exact⟨rfl,rfl,rfl⟩) rfl
  have V:ZcL (Zco d names keep)=ZdE (Zaw keep (ZeF d K) 0 d.files) (ZeF d K):=by rw[i.o];rfl
  rw[V];exact m
 ·have:=g.o.files
  show(Zaw keep _ 0 d.files).length<=N;rw[Zci];exact this
 ·have m:=Zey d (Zcv names d.waits.length)
  have U:=g.o.names;show(ZeF d (Zcv names d.waits.length)).length+0<=N;omega
 ·intro x R
  refine ZfX keep (ZeF d K) 0 d.files g.o.bytes G.o x ?_;rw[i.o];exact R
theorem ZwK (v:Value) (l:List UInt8) (w:World) (u:Rd w v l) (I:l.length<=70368744177664):
 Calls prog 183 #[v] w fun e w'=>∃ v',e=.returned v'∧Own w' w.heap.size v' l∧Below w.heap.size w w':=by
 obtain⟨t,p,G,f,A⟩:=info_parts ZnJ;have z:=ZZ u;obtain⟨ao,cap,rfl,N,L,y,i⟩:=u;have D:=ZZ i;have g:=ZZ y;clear i y
 go_enter func183,ntmps183
 go_wp2_with(at_make;refine wpList_make_own _ rfl _ _ 53 rfl w.heap.size 5 t (.int .u8 0) 1 underlying53 p G f _ _ _ (l.length+10) rfl rfl (by omega) (by rw[A];omega) (by unfold maxLen;omega) zL ?_)
 intro F q b;have c:Below w.heap.size w F:=(Below.refl _ _).grown b zL (fun k a=>by cases a)
 obtain⟨M,J,d,_,_,_,h⟩:=z.o.below c zL;simp only [Value.slice.injEq] at d;obtain⟨rfl,_,rfl⟩:=d;have C:=ZZ h;have x:=ZZ c;have K:=ZZ b;clear h c b D
 go_wp2_with(at_builtin;refine wpList_append_fits_any _ rfl _ _ 53 rfl w.heap.size 5 t 1 underlying53 p f w.heap.size 0 (l.length+10) [] rfl q ao l.length cap (Lib.byteCells l) rfl (by rw[Zbi,Nat.mul_one]) (fun e=>⟨by have:=g.o e;omega,g.o e⟩) (Rd.cells C.o) (ZdH l) (by omega) ?_)
 intro E m n;have j:Below w.heap.size w E:=x.o.grown n (by have:=x.o.size;omega) (fun k a=>by simp at a;omega)
 have H:=ZZ j;have B:=ZZ m;clear j n m q;go_wp2;go_ret;exact⟨_,rfl,Own.mk' B.o (by simp) (by simp),H.o⟩
theorem ZCn (y:Nat):bits .or .u8 ((y:Int) % 256) 128=(y:Int) % 128+128:=by
 rw[Lib.u8_or128_any _ (by omega) (by omega)]
 omega
theorem Own.snoc (l b:List UInt8) (a:Nat) (d:a<256) {n:Nat} {x:Int} (h:w.ownsRow B 5 1 v n (Lib.byteCells (l++b)++[Value.int .u8 x])) (c:n=l.length+b.length+1) (e:x=(a:Int)):Own w B v (l++(b++[a.toUInt8])):=by
 subst e;refine Own.mk' h (by rw[c];simp;omega) ?_
 rw[<-List.append_assoc,Lib.byteCells_snoc _ d]
theorem ZhK (v:Value) (l:List UInt8) (u:Nat) (w:World) (G:Rd w v l) (J:l.length<=70368744177664) (b:u<18446744073709551616):
 Calls prog 184 #[v,.int .u64 (u:Int)] w fun e w'=>∃ v',e=.returned v'∧Own w' w.heap.size v' (l++Lib.uvarint u)∧Below w.heap.size w w':=by
 obtain⟨F,E,H,z,A⟩:=info_parts ZnJ;have V:=Lib.uvarint_length64 b;have C:=ZZ (ZwK v l w G J);have W:=ZZ b;clear G b
 go_enter func184,ntmps184
 go_wp2_with fail
 refine C.o.mono ?_;rintro e X ⟨S,rfl,B,I⟩;have P:=ZZ B;have O:=ZZ I;clear B I C;go_wp2
 go_loopw[1,5] (fun m K wr=>∃ (y:Nat) (c:List UInt8),m=.int .u64 (y:Int)∧Hid (y<=u∧Lib.uvarint u=c++Lib.uvarint y)∧Hid (Own wr w.heap.size K (l++c))∧Hid (Below w.heap.size w wr))
  (fun m _ _=>(intOf m).toNat)
 case atStart=>exact⟨u,[],rfl,⟨Nat.le_refl _,rfl⟩,by rw[List.append_nil];exact P.o,O.o⟩
 case round=>
  obtain⟨y,c,rfl,h,i,q⟩:=hrel
  have Q:c.length+(Lib.uvarint y).length<=10:=by
   have N:=congrArg List.length h.out.2;rw[List.length_append] at N;omega
  have T:=Lib.uvarint_pos y;have U:=q.out.size;by_cases L:128<=y
  ·have R:=ZCn y
   go_wp2_with(at_builtin;refine wpList_append_own _ rfl _ _ 53 rfl w.heap.size 5 F (.int .u8 0) 1 1 underlying53 E H z A rfl (by decide) _ _ _ rfl (World.ownsRow.alloc i.out _) ⟨wr.heap.size,0,none⟩ 1 1 [Value.int .u8 ((y % 128+128:Nat):Int)] rfl rfl ?c1 ?c2 ?c3 ?c4 ?c5 ?_)
   case c1=>
    intro j u a
    match j,a with
    | 0,a=>simp at a;subst a;simp[Addr.add]
   case c2=>intro u b;simp at b;subst b;rfl
   case c3=>unfold maxLen;simp;omega
   case c4=>simp;omega
   case c5=>simp;omega
   intro v' t f g _;have d:Below w.heap.size w t:=(q.out.alloc (by omega) _).grown g (by simp;omega) (fun k n=>(World.ownsRow.lt i.out k n).1)
   have p:=ZZ (Own.snoc l c (y % 128+128) (by omega) f (by simp) (by omega))
   have x:=ZZ d;clear f d g;go_wp2;go_roundw
   case rel=>exact⟨y / 128,c++[(y % 128+128).toUInt8],by go_num,⟨by have:=h.out.1;omega,by rw[h.out.2,Lib.uvarint_big L];simp⟩,p,x⟩
   case measure=>simp[intOf];omega
  ·have D:Lib.uvarint y=[y.toUInt8]:=Lib.uvarint_small (by omega)
   have M:=ZZ D;clear D
   go_wp2_with(at_builtin;refine wpList_append_own _ rfl _ _ 53 rfl w.heap.size 5 F (.int .u8 0) 1 1 underlying53 E H z A rfl (by decide) _ _ _ rfl (World.ownsRow.alloc i.out _) ⟨wr.heap.size,0,none⟩ 1 1 [Value.int .u8 (y:Int)] rfl rfl ?c1 ?c2 ?c3 ?c4 ?c5 ?_)
   case c1=>
    intro j u a
    match j,a with
    | 0,a=>simp at a;subst a;simp[Addr.add]
   case c2=>intro u b;simp at b;subst b;rfl
   case c3=>unfold maxLen;simp;omega
   case c4=>simp;omega
   case c5=>simp;omega
   intro v' t f g _;have d:Below w.heap.size w t:=(q.out.alloc (by omega) _).grown g (by simp;omega) (fun k n=>(World.ownsRow.lt i.out k n).1)
   have p:=ZZ (Own.snoc l c y (by omega) f (by simp) rfl)
   have x:=ZZ d;clear f d g;go_wp2;go_ret;refine⟨v',rfl,?_,x.o⟩;rw[h.out.2,M.o];exact p.o
def Zuw (l:List UInt8) (n:Int):List UInt8:=if 0<=n∧n<4611686018427387904 then l++Lib.uvarint n.toNat else l
theorem ZeN (v:Value) (l:List UInt8) (n:Int) (w:World) (d:Rd w v l) (k:l.length<=70368744177664):
 Calls prog 132 #[v,.int .i64 n] w fun e w'=>∃ v',e=.returned v'∧Own w' w.heap.size v' (Zuw l n)∧Below w.heap.size w w':=by
 by_cases h:0<=n∧n<4611686018427387904
 ·obtain⟨i,p⟩:=h
  have g:Hid (Zuw l n=l++Lib.uvarint n.toNat):=if_pos ⟨i,p⟩;have a:=ZZ (ZhK v l n.toNat w d k (by omega))
  have m:((n.toNat:Nat):Int)=n:=Int.toNat_of_nonneg i;rw[m] at a;clear m d
  go_enter func132,ntmps132
  go_wp2_with fail
  refine a.o.mono ?_;rintro e w' ⟨v',rfl,c,b⟩;have f:=ZZ c;have j:=ZZ b;clear c b a;go_wp2;go_ret;exact⟨v',rfl,by rw[g.o];exact f.o,j.o⟩
 ·have g:Hid (Zuw l n=l):=if_neg h
  have a:=ZZ (ZwK v l w d k);clear d;by_cases i:n<0
  all_goals
   go_enter func132,ntmps132
   go_wp2_with fail
   refine a.o.mono ?_;rintro e w' ⟨v',rfl,c,b⟩;have f:=ZZ c;have j:=ZZ b;clear c b a;go_wp2;go_ret;exact⟨v',rfl,by rw[g.o];exact f.o,j.o⟩
theorem Zck (v:Value) (l:List UInt8) (n:Int) (w:World) (g:Rd w v l) (i:l.length<=70368744177664) (a:-9223372036854775808<=n) (b:n<=9223372036854775807):
 Calls prog 142 #[v,.int .i64 n] w fun e w'=>∃ v',e=.returned v'∧Own w' w.heap.size v' (l++Lib.uvarint (Lib.zigzag n))∧Below w.heap.size w w':=by
 have d:=ZZ (ZhK v l (Lib.zigzag n) w g i (Lib.zigzag_lt a b));have c:=ZZ (ZAt n w a b);generalize Lib.zigzag n=z at *;clear g a b
 go_enter func142,ntmps142
 go_wp2_with fail
 refine c.o.mono ?_;rintro e w' ⟨rfl,rfl⟩
 go_wp2_with fail
 refine d.o.mono ?_;rintro e w' ⟨v',rfl,h,f⟩;have j:=ZZ h;have k:=ZZ f;clear h f d c;go_wp2;go_ret;exact⟨v',rfl,j.o,k.o⟩
def Cnt (l:List UInt8) (c:Nat):Prop:=
 (c=0∧∀ j,j<10->j<l.length->128<=(l.getD j 0).toNat)∨
 (1<=c∧c<=10∧c<=l.length∧(∀ j,j+1<c->128<=(l.getD j 0).toNat)∧(l.getD (c-1) 0).toNat<128)
theorem ZwL (v:Value) (l:List UInt8) (w:World) (t:Rd w v l):
 Calls prog 222 #[v] w fun e w'=>∃ c:Nat,e=.returned (.int .i64 (c:Int))∧Cnt l c∧w'=w:=by
 obtain⟨ao,cap,rfl,G,u,x,a⟩:=t;clear x;have C:(l.length:Int)<=9223372036854775807:=by unfold maxLen at u;omega
 by_cases F:(l.length:Int)<=10
 all_goals
  go_enter func222,ntmps222
  go_wp2
  go_loop [7] (fun i=>∃ k:Nat,i=.int .i64 k∧k<=10∧k<=l.length∧Hid (∀ j,j<k->128<=(l.getD j 0).toNat)) (fun i=>10-(intOf i).toNat)
  case atStart=>exact⟨0,rfl,by omega,by omega,fun j g=>by omega⟩
  case round=>
   obtain⟨k,rfl,E,z,f⟩:=hrel;by_cases m:k<10∧k<l.length
   ·obtain⟨m,n⟩:=m
    rcases a with a | ⟨b,A,rfl,p⟩
    ·subst a;simp at n
    ·have q:=p k n
     clear p;obtain⟨y,d⟩:∃ y,y=(l.getD k 0).toNat:=⟨_,rfl⟩;rw[<-d] at q;have h:Hid (y=(l.getD k 0).toNat):=d;clear d;by_cases D:(y:Int)<128
     ·go_wp2
      go_ret;refine⟨k+1,Zfi (by omega),.inr ⟨by omega,by omega,by omega,fun j g=>f.out j (by omega),?_⟩,rfl⟩
      rw[Nat.add_sub_cancel,<-h.o];omega
     ·go_wp2
      go_round
      case rel=>
       refine⟨k+1,by go_num,by omega,by omega,fun j g=>?_⟩
       by_cases e:j=k
       ·rw[e,<-h.o];omega
       ·exact f.out j (by omega)
      case measure=>simp[intOf];omega
   ·go_wp2
    go_ret;exact⟨0,rfl,.inl ⟨rfl,fun j H B=>f.out j (by omega)⟩,rfl⟩
theorem Zux (h:Cnt l 0):Zah l=(0,0):=by
 rcases h with ⟨_,h⟩ | h
 ·unfold Zah
  rw[ZnH 10 l h]
 ·omega
theorem Zoa (h:Cnt l (c+1)):c<10∧c<l.length∧(l.getD c 0).toNat<128∧
 dec 10 l=if 0<c∧(l.getD c 0).toNat=0 then none else some (val (l.take (c+1)),c+1):=by
 rcases h with h | ⟨i,g,e,b,d⟩
 ·omega
 ·have a:(l.getD c 0).toNat<128:=by simpa using d
  exact⟨by omega,by omega,a,Zwf c 10 l (by omega) (by omega) (fun j f=>b j (by omega)) a⟩
theorem Zha (l:List UInt8) (k:Nat) (h:k<=l.length):val (l.take k)<128 ^ k:=by
 have:=ZAi (l.take k)
 rwa [length_take,Nat.min_eq_left h] at this
theorem ZwM (h:Cnt l 10) (j:(l.getD 9 0).toNat≠1):Zah l=(0,0):=by
 obtain⟨k,d,c,f⟩:=Zoa h;unfold Zah;rw[f];by_cases b:(l.getD 9 0).toNat=0
 ·rw[if_pos ⟨by omega,b⟩]
 ·rw[if_neg (fun e=>b e.2)]
  have a:=Zhs l 9 d;have g:(l.getD 9 0).toNat % 128=(l.getD 9 0).toNat:=Nat.mod_eq_of_lt c;rw[g] at a;have i:128 ^ 9=9223372036854775808:=by decide
  rw[i] at a;have:¬ val (l.take (9+1))<18446744073709551616:=by omega
  simp only [this,if_false]
theorem Zrw (h:Cnt l (c+1)) (b:0<c) (d:(l.getD c 0).toNat=0):Zah l=(0,0):=by
 obtain⟨g,f,e,a⟩:=Zoa h;unfold Zah;rw[a,if_pos ⟨b,d⟩]
theorem Zuy (h:Cnt l (c+1)) (j:c=9->(l.getD c 0).toNat=1) (k:0<c->(l.getD c 0).toNat≠0):
 Zah l=(val (l.take (c+1)),c+1)∧val (l.take (c+1))<18446744073709551616:=by
 obtain⟨p,g,m,i⟩:=Zoa h
 have d:val (l.take (c+1))<18446744073709551616:=by
  by_cases e:c=9
  ·subst e
   have a:=Zhs l 9 g;have f:=Zha l 9 (by omega)
   rw[j rfl] at a;have b:128 ^ 9=9223372036854775808:=by decide
   rw[b] at a f;omega
  ·have a:=Zha l (c+1) (by omega)
   have n:128 ^ (c+1)<=128 ^ 9:=Nat.pow_le_pow_right (by decide) (by omega)
   have b:128 ^ 9=9223372036854775808:=by decide
   omega
 refine⟨?_,d⟩;unfold Zah;rw[i,if_neg (fun e=>k e.1 e.2)]
 simp only [d,if_true]
theorem ZAl (k y x:Nat) (f:k<64) (c:y<2 ^ k) (d:x*2 ^ k<18446744073709551616):
 bits .or .u64 (y:Int) (IntKind.u64.wrap ((x:Int)*2 ^ k))=((y+x*2 ^ k:Nat):Int):=by
 have e:((x:Int)*2 ^ k)=((x*2 ^ k:Nat):Int):=by simp
 have a:((2 ^ k:Nat):Int)=(2:Int) ^ k:=by simp
 have b:(2:Nat) ^ k<=2 ^ 64:=Nat.pow_le_pow_right (by decide) (by omega)
 rw[e,wraps_u64 _ (by omega) (by omega),bits_join_low .u64 64 (by decide) wraps_u64 k (y:Int) ((x*2 ^ k:Nat):Int) (by omega) (by rw[<-a];omega) (by omega) (by omega) (by rw[<-a];simp) (by omega)]
 omega
theorem ZAJ (l:List UInt8) (k:Nat) (h:k<l.length) (i:k<10) (g:k=9->(l.getD k 0).toNat % 128<=1):
 bits .or .u64 ((val (l.take k):Nat):Int) (IntKind.u64.wrap (((l.getD k 0).toNat:Int) % 128*2 ^ (7*k)))=((val (l.take (k+1)):Nat):Int):=by
 have a:=Zha l k (by omega)
 rw[Zhs l k h,<-pow7];rw[<-pow7] at a;have e:(((l.getD k 0).toNat:Int) % 128)=(((l.getD k 0).toNat % 128:Nat):Int):=by omega
 rw[e];refine ZAl (7*k) _ _ (by omega) a ?_
 by_cases b:k=9
 ·have:=g b
  subst b;have f:2 ^ (7*9)=9223372036854775808:=by decide
  rw[f];omega
 ·have c:2 ^ (7*k)<=2 ^ 56:=Nat.pow_le_pow_right (by decide) (by omega)
  have d:(l.getD k 0).toNat % 128<=127:=by omega
  have:=Nat.mul_le_mul d c;have j:127*2 ^ 56<18446744073709551616:=by decide
  omega
theorem ZmU (v:Value) (l:List UInt8) (w:World) (E:Rd w v l):
 Calls prog 207 #[v] w fun e w'=>e=.returned (.tuple #[.int .u64 ((Zah l).1:Nat),.int .i64 ((Zah l).2:Nat)])∧w'=w:=by
 have F:=ZwL v l w E;obtain⟨ao,cap,rfl,ad,ac,T,n⟩:=E;clear T;have D:=ZZ F;clear F
 go_enter func207,ntmps207
 go_wp2_with fail
 refine D.o.mono ?_;rintro e w' ⟨c,rfl,a,rfl⟩;have a:Hid (Cnt l c):=a;clear D
 cases c with
 | zero=>
  have H:Hid (Zah l=(0,0)):=Zux a.out;go_wp2;go_ret2;exact⟨by rw[H.out];rfl,rfl⟩
 | succ c=>
  obtain⟨ab,G,J,Q⟩:=Zoa a.out;clear Q;rcases n with n | ⟨b,Z,rfl,q⟩
  ·subst n;simp at G
  have C:=q c G;obtain⟨y,A⟩:∃ y,y=(l.getD c 0).toNat:=⟨_,rfl⟩;rw[<-A] at C J;have d:Hid (y=(l.getD c 0).toNat):=A;have L:=ZZ q;clear A q;by_cases g:(c=9∧y≠1)∨(0<c∧y=0)
  ·have H:Hid (Zah l=(0,0)):=by
    rcases g with ⟨f,S⟩ | ⟨O,U⟩
    ·subst f
     exact ZwM a.out (by rw[<-d.o];exact S)
    ·exact Zrw a.out O (by rw[<-d.o];exact U)
   by_cases f:c=9
   ·have m:(((c:Int)+1) == 10)=true:=beq_iff_eq.2 (by omega)
    have V:((y:Int) != 1)=true:=by rw[bne_iff_ne];omega
    clear g f;go_wp2;go_ret2;exact⟨by rw[H.out];rfl,rfl⟩
   ·have m:(((c:Int)+1) == 10)=false:=beq_eq_false_iff_ne.2 (by omega)
    have t:(1:Int)<(c:Int)+1:=by omega
    have B:((y:Int) == 0)=true:=beq_iff_eq.2 (by omega)
    clear g f;go_wp2;go_ret2;exact⟨by rw[H.out];rfl,rfl⟩
  ·have H:Hid (Zah l=(val (l.take (c+1)),c+1)∧val (l.take (c+1))<18446744073709551616):=Zuy a.out (fun h=>by rw[<-d.o];omega) (fun h=>by rw[<-d.o];omega)
   have hw3:(c=9∧y=1)∨c=0∨(0<c∧c<9∧y≠0):=by omega
   have R:Hid (c=9->y=1):=fun h=>by omega
   clear g;rcases hw3 with hw3 | hw3 | hw3
   all_goals
    first
     | (have m:(((c:Int)+1) == 10)=true:=beq_iff_eq.2 (by omega)
        have V:((y:Int) != 1)=false:=by rw[bne_eq_false_iff_eq];omega
        have t:(1:Int)<(c:Int)+1:=by omega
        have B:((y:Int) == 0)=false:=beq_eq_false_iff_ne.2 (by omega))
     | (have m:(((c:Int)+1) == 10)=false:=beq_eq_false_iff_ne.2 (by omega)
        have t:¬ (1:Int)<(c:Int)+1:=by omega)
     | (have m:(((c:Int)+1) == 10)=false:=beq_eq_false_iff_ne.2 (by omega)
        have t:(1:Int)<(c:Int)+1:=by omega
        have B:((y:Int) == 0)=false:=beq_eq_false_iff_ne.2 (by omega))
    clear hw3;have W:(((c:Int)+1) == 0)=false:=beq_eq_false_iff_ne.2 (by omega)
    go_wp2
    go_loop [5,35] (fun u i=>∃ k:Nat,k<=c+1∧i=.int .i64 k∧u=.int .u64 (val (l.take k):Nat)) (fun _ i=>c+1-(intOf i).toNat)
    case atStart=>exact⟨0,Nat.zero_le _,rfl,rfl⟩
    case round=>
     obtain⟨k,Y,rfl,rfl⟩:=hrel;by_cases X:k<c+1
     ·have P:=L.o k (by omega)
      obtain⟨x,j⟩:∃ x,x=(l.getD k 0).toNat:=⟨_,rfl⟩;rw[<-j] at P;have aa:x<256:=by rw[j];exact UInt8.toNat_lt _
      have M:=ZZ j;clear j;obtain⟨z,p⟩:∃ z,z=val (l.take k):=⟨_,rfl⟩;rw[<-p];have I:=ZZ p;clear p C;go_wp2
      go_round
      case rel=>
       refine⟨k+1,by omega,by go_num,?_⟩
       rw[I.o,M.o,ZAJ l k (by omega) (by omega) (fun h=>?_)]
       have K:c=k:=by omega
       rw[<-K,<-d.o,R.o (by omega)]
       decide
      case measure=>simp[intOf];omega
     ·go_wp2
      go_ret2;have N:k=c+1:=by omega
      rw[H.out.1,N];exact⟨rfl,rfl⟩
theorem ZfY (v:Value) (l:List UInt8) (w:World) (g:Rd w v l):
 Calls prog 168 #[v] w fun e w'=>e=.returned (.tuple #[.int .i64 ((Zab l).1:Nat),.int .i64 ((Zab l).2:Nat)])∧w'=w:=by
 have a:=ZZ (ZmU v l w g);have H:Hid (Zab l=if(Zah l).1<4611686018427387904 then Zah l else(0,0)):=rfl
 generalize Zah l=d at *;obtain⟨u,k⟩:=d;obtain⟨U,b⟩:∃ U:Int,U=(u:Int):=⟨_,rfl⟩;simp only at a H;rw[<-b] at a;have h:0<=U:=by omega
 have f:=ZZ b;clear b;by_cases i:U<4611686018427387904
 ·go_enter func168,ntmps168
  go_wp2_with fail
  refine a.o.mono ?_;rintro e w' ⟨rfl,rfl⟩;go_wp2;go_ret2;have e:=H.out;have c:=f.o;rw[if_pos (by omega)] at e
  rw[e];exact⟨by rw[c];rfl,rfl⟩
 ·go_enter func168,ntmps168
  go_wp2_with fail
  refine a.o.mono ?_;rintro e w' ⟨rfl,rfl⟩;go_wp2;go_ret2;have e:=H.out;have c:=f.o;rw[if_neg (by omega)] at e
  rw[e];exact⟨rfl,rfl⟩
theorem ZcV (v:Value) (l:List UInt8) (w:World) (f:Rd w v l):
 Calls prog 201 #[v] w fun e w'=>e=.returned (.tuple #[.int .i64 (zag (Zah l).1),.int .i64 ((Zah l).2:Nat)])∧w'=w:=by
 have a:=ZZ (ZmU v l w f);have b:=ZnI l;have c:=ZcM l;generalize Zah l=d at *;obtain⟨u,k⟩:=d;simp only at a b c
 go_enter func201,ntmps201
 go_wp2_with fail
 refine a.o.mono ?_;rintro e w' ⟨rfl,rfl⟩
 go_wp2_with fail
 refine(ZAu u _ b).mono ?_;rintro e g ⟨rfl,rfl⟩;go_wp2;go_ret2;exact⟨rfl,rfl⟩
theorem Zjl:∀ (k v:Nat),Lib.leBytes (k+1) v=Lib.leBytes k v++[(v / 256 ^ k % 256).toUInt8]
 | 0,v=>by simp[Lib.leBytes]
 | k+1,v=>by
  have a:=Zjl k (v / 256);have e:v / 256 / 256 ^ k=v / 256 ^ (k+1):=by rw[Nat.div_div_eq_div_mul,Nat.pow_succ,Nat.mul_comm]
  rw[Lib.leBytes,a,e];simp[Lib.leBytes]
def ZkN (c k v:Nat):List UInt8:=Lib.leBytes k v++List.replicate (c-k) 0
theorem ZpD (c k v:Nat) (h:k<=c):(ZkN c k v).length=c:=by
 simp[ZkN,Lib.leBytes_length];omega
theorem ZwN (c k v:Nat) (h:k<c):(Lib.byteCells (ZkN c k v)).set k (.int .u8 ((v / 256 ^ k % 256:Nat):Int))=Lib.byteCells (ZkN c (k+1) v):=by
 have e:c-k=(c-(k+1))+1:=by omega
 unfold ZkN;rw[Zjl,e,List.replicate_succ];have a:(Lib.byteCells (Lib.leBytes k v)).length=k:=by rw[Zbi,Lib.leBytes_length]
 have b:((v / 256 ^ k % 256).toUInt8).toNat=v / 256 ^ k % 256:=Lib.toUInt8_toNat (Nat.mod_lt _ (by decide))
 simp only [Lib.byteCells,List.map_append,List.map_cons,List.map_nil,b] at a ⊢;rw[List.set_append_right _ _ (by omega),a]
 simp
theorem ZCo (k:Nat):2 ^ (8*k)=256 ^ k:=by rw[Nat.pow_mul]
theorem ZwO (v k:Nat):((v:Int) / 2 ^ (8*k)) % 256=((v / 256 ^ k % 256:Nat):Int):=by
 rw[<-ZCo];simp
theorem Zuz (v c:Nat) (w:World) (D:c<=8):
 Calls prog 186 #[.int .u64 (v:Int),.int .i64 (c:Int)] w fun e w'=>∃ v',e=.returned v'∧Own w' w.heap.size v' (Lib.leBytes c v)∧Below w.heap.size w w':=by
 obtain⟨y,x,A,q,t⟩:=info_parts ZnJ
 go_enter func186,ntmps186
 go_wp2_with(at_make;refine wpList_make_full _ rfl _ _ 53 rfl w.heap.size 5 y (.int .u8 0) 1 underlying53 x A q _ _ _ _ c rfl rfl rfl rfl (by rw[t];omega) (by unfold maxLen;omega) zL ?_)
 intro j h m;have p:Below w.heap.size w j:=(Below.refl _ _).grown m zL (fun k b=>by cases b)
 have n:j.ownsRow w.heap.size 5 1 (.slice (some ⟨w.heap.size,0,none⟩) c c) c (Lib.byteCells (ZkN c 0 v)):=by
  have e:(madeCells #[Value.int .u8 0] c).toList=Lib.byteCells (ZkN c 0 v):=by
   rw[toList_madeCells_one];simp[ZkN,Lib.leBytes,Lib.byteCells]
  rw[<-e];exact h
 have u:=ZZ n;have z:=ZZ p;clear h n p m;go_wp2
 go_loopw[11] (fun i wr=>∃ k:Nat,k<=c∧i=.int .i64 (k:Int)∧Hid (wr.ownsRow w.heap.size 5 1 (.slice (some ⟨w.heap.size,0,none⟩) c c) c (Lib.byteCells (ZkN c k v)))∧Hid (Below w.heap.size w wr)) (fun i _=>c-(intOf i).toNat)
 case atStart=>exact⟨0,Nat.zero_le _,rfl,u,z⟩
 case round=>
  obtain⟨k,b,rfl,a,g⟩:=hrel;by_cases d:k<c
  ·have C:wr.cell? ⟨w.heap.size,k,none⟩=some (.int .u8 ((ZkN c k v).getD k 0).toNat):=by
    rw[World.ownsRow.cellAt a.out k (by omega),Zfh _ _ (by rw[ZpD c k v b];exact d)]
   have B:wr.frozen? ⟨w.heap.size,k,none⟩=false:=World.ownsRow.frozenAt a.out k;go_wp2;go_roundw
   case rel=>
    have f:=World.ownsRow.stored a.out k (Value.int .u8 ((v / 256 ^ k % 256:Nat):Int));rw[ZwN c k v d] at f;rw[ZwO];exact⟨k+1,by omega,by go_num,f.1,g.out.setCell zL _⟩
   case measure=>simp[intOf];omega
  ·go_wp2
   go_ret;have e:k=c:=by omega
   refine⟨_,rfl,Own.mk' (l:=Lib.leBytes c v) a.out (by rw[Lib.leBytes_length]) ?_,g.out⟩
   rw[e];simp[ZkN]
theorem ZkO (v:Nat) (w:World) (h:v<4294967296):
 Calls prog 135 #[.int .u32 (v:Int)] w fun e w'=>∃ v',e=.returned v'∧Own w' w.heap.size v' (Lib.leBytes 4 v)∧Below w.heap.size w w':=by
 have a:Hid (Calls prog 186 #[.int .u64 (v:Int),.int .i64 4] w fun e w'=>∃ v',e=.returned v'∧Own w' w.heap.size v' (Lib.leBytes 4 v)∧Below w.heap.size w w'):=Zuz v 4 w (by omega)
 obtain⟨U,d⟩:∃ U:Int,U=(v:Int):=⟨_,rfl⟩;have i:0<=U:=by omega
 have j:U<4294967296:=by omega
 rw[<-d] at a ⊢;clear d h
 go_enter func135,ntmps135
 go_wp2_with fail
 refine a.o.mono ?_;rintro e w' ⟨v',rfl,b,c⟩;have g:=ZZ b;have f:=ZZ c;clear b c a;go_wp2;go_ret;exact⟨v',rfl,g.o,f.o⟩
theorem Zob:∀ l:List UInt8,Lib.leNat l<256 ^ l.length
 | []=>by simp[Lib.leNat]
 | c::r=>by
  have h:=Zob r;have a:=c.toNat_lt;simp only [Lib.leNat,length_cons,Nat.pow_succ];omega
theorem ZmV:∀ (l:List UInt8) (c:UInt8),Lib.leNat (l++[c])=Lib.leNat l+c.toNat*256 ^ l.length
 | [],c=>by simp[Lib.leNat]
 | d::r,c=>by
  have h:=ZmV r c;simp only [List.cons_append,Lib.leNat,length_cons,Nat.pow_succ,h];rw[Nat.mul_add,<-Nat.mul_assoc,Nat.mul_comm 256 c.toNat,Nat.mul_assoc,Nat.mul_comm 256 (256 ^ r.length)];omega
theorem ZuA (l:List UInt8) (k:Nat) (h:k<l.length):Lib.leNat (l.take (k+1))=Lib.leNat (l.take k)+(l.getD k 0).toNat*256 ^ k:=by
 rw[Zkf l k h,ZmV,length_take,Nat.min_eq_left (by omega)]
theorem Zoc (l:List UInt8) (k:Nat) (h:k<=l.length):Lib.leNat (l.take k)<256 ^ k:=by
 have:=Zob (l.take k)
 rwa [length_take,Nat.min_eq_left h] at this
theorem Zzi (l:List UInt8) (k:Nat) (d:k<l.length) (e:k<8):
 bits .or .u64 ((Lib.leNat (l.take k):Nat):Int) (IntKind.u64.wrap (((l.getD k 0).toNat:Int)*2 ^ (8*k)))=((Lib.leNat (l.take (k+1)):Nat):Int):=by
 have a:=Zoc l k (by omega)
 rw[ZuA l k d,<-ZCo];rw[<-ZCo] at a;refine ZAl (8*k) _ _ (by omega) a ?_
 have b:2 ^ (8*k)<=2 ^ 56:=Nat.pow_le_pow_right (by decide) (by omega)
 have f:=(l.getD k 0).toNat_lt;have c:(l.getD k 0).toNat<=255:=by omega
 have:=Nat.mul_le_mul c b;have g:255*2 ^ 56<18446744073709551616:=by decide
 omega
theorem ZpE (v:Value) (l:List UInt8) (w:World) (h:Rd w v l):
 Calls prog 161 #[v] w fun e w'=>e=.returned (.int .u64 (Lib.leNat (l.take 8):Nat))∧w'=w:=by
 obtain⟨ao,cap,rfl,C,j,m,c⟩:=h;clear m;have u:(l.length:Int)<=9223372036854775807:=by unfold maxLen at j;omega
 by_cases B:(l.length:Int)<=8
 all_goals
  go_enter func161,ntmps161
  go_wp2
  go_loop [3,8] (fun n i=>∃ k:Nat,i=.int .i64 k∧k<=8∧k<=l.length∧n=.int .u64 (Lib.leNat (l.take k):Nat)) (fun _ i=>8-(intOf i).toNat)
  case atStart=>exact⟨0,rfl,by omega,by omega,rfl⟩
  case round=>
   obtain⟨k,rfl,x,p,rfl⟩:=hrel;by_cases a:k<8∧k<l.length
   ·obtain⟨a,d⟩:=a
    rcases c with c | ⟨b,t,rfl,f⟩
    ·subst c;simp at d
    ·have q:=f k d
     have g:=ZZ (Zzi l k d a);have A:(l.getD k 0).toNat<256:=UInt8.toNat_lt _;clear f;generalize (l.getD k 0).toNat=y at *;generalize Lib.leNat (l.take k)=z at *;go_wp2
     go_round
     case rel=>exact⟨k+1,by go_num,by omega,by omega,by rw[g.o]⟩
     case measure=>simp[intOf];omega
   ·go_wp2
    go_ret;refine⟨Zfi ?_,rfl⟩;by_cases e:k=8
    ·rw[e]
    ·rw[List.take_of_length_le (by omega:l.length<=k),List.take_of_length_le (by omega:l.length<=8)]
def bs (l:List UInt8):ByteArray:=⟨l.toArray⟩
theorem ZwP (l:List UInt8):(bs l).toList=l:=ByteArray.toList_mk l
theorem ZCp (a b:List UInt8):((bs a).toList == (bs b).toList)=(a == b):=by rw[ZwP,ZwP]
theorem Rd.str (h:Rd w v l):(convert 53 9 v).run prog w=.ok (.string (bs l)) w:=by
 obtain⟨ao,cap,rfl,_,_,d,h⟩:=h
 cases ao with
 | none=>
  have b:l=[]:=List.eq_nil_of_length_eq_zero (by have:=d rfl;omega)
  subst b;exact run_convert_bytes_nil w 53 5 underlying53 underlying5 0 cap 9 underlying9
 | some a=>
  have b:(loadCells a l.length).run prog w=.ok ((l.map fun c=>(c.toNat:Int)).map (Value.int .u8)).toArray w:=by
   have:=run_loadCells_list (P:=prog) w a (Lib.byteCells l) (Rd.cells h a rfl);rw[Zbi] at this;rw[this];simp[Lib.byteCells,Function.comp_def]
  rw[run_convert_bytes_string w 53 9 5 _ l.length cap underlying53 underlying5 underlying9,run_bytesToString w _ l.length cap _ b,foldl_push_bytes]
  have e:(List.map (fun n:Int=>UInt8.ofNat n.toNat) (List.map (fun c:UInt8=>(c.toNat:Int)) l))=l:=by
   rw[List.map_map]
   conv=>rhs;rw[<-List.map_id l]
   apply List.map_congr_left;intro c _;simp
  rw[e];simp[bs,ByteArray.empty,ByteArray.emptyWithCapacity];rfl
def ZAK (B:Nat) (w:World) (p:Nat) (d:Dk) (N T:Nat):Prop:=∃ F,Dsk F w p d N T∧∀ k,F k->B<=k
theorem Zto (B:Nat) (room:Int) (f:I64 room) (w:World) (b:B<=w.heap.size):
 Calls prog 9 #[.int .i64 room] w fun e w'=>∃ p,e=.returned (ptr p)∧ZAK B w' p (Zmi room) 0 0∧Below B w w':=by
 refine(ZAF room f w).mono ?_;rintro e w' ⟨p,c,d,a⟩;exact⟨p,c,⟨_,d,fun k g=>by omega⟩,a.mono b⟩
theorem Dsk.ltF (h:Dsk F w p d N T):∀ k,F k->k<w.heap.size:=by
 obtain⟨L,a,_⟩:=h;exact a.lt
theorem ZuB (w:World) (h:ZAK B w p d N T) (b:N<=1000000):
 Calls prog 28 #[ptr p] w fun e w'=>∃ v,e=.returned v∧ZaB w' w.heap.size v ((Zbk d).map Prod.fst)∧Below w.heap.size w w':=by
 obtain⟨F,⟨L,c,a,_⟩,f⟩:=h;exact ZhJ w c a b
theorem ZAK.ok (h:ZAK B w p d N T):OkD d∧Bnd d N T:=by
 obtain⟨F,⟨L,e,a,b,_⟩,c⟩:=h;exact⟨a,b⟩
theorem ZcW (w:World) (o:Obj):Below w.heap.size w (w.alloc o):=(Below.refl _ w).alloc zL o
theorem Rd.mid (h:Rd w (.slice ao n cap) l) (i j m:Nat) (y:i<=j) (z:j<=l.length) (C:j<=m) (D:m<=cap):Rd w (sliced ao i j m 1) ((l.drop i).take (j-i)):=by
 obtain⟨E,A,f,F,B,p,a⟩:=h;simp only [Value.slice.injEq] at f;obtain⟨rfl,rfl,rfl⟩:=f;have c:((l.drop i).take (j-i)).length=j-i:=by simp;omega
 unfold sliced;by_cases q:m=i
 ·rw[if_pos q]
  have e:j-i=0:=by omega
  refine⟨ao,m-i,by rw[c],by omega,by omega,fun d=>by have:=p d;omega,.inl ?_⟩
  rw[e];simp
 ·rw[if_neg q]
  refine⟨ao.map (·.add (i*1)),m-i,by rw[c],by omega,by omega,fun d=>?_,?_⟩
  ·have x:ao=none:=by simpa using d
   have:=p x;omega
  ·rcases a with a | ⟨b,t,v,u⟩
   ·exact .inl (by rw[a];simp)
   ·refine .inr ⟨b,t+i,?_,fun k g=>?_⟩
    ·rw[v,Nat.mul_one,Option.map_some,Addr.add_lit]
    ·rw[c] at g
     rw[Nat.add_assoc,u (i+k) (by omega)]
     simp[List.getD,g]
theorem ZbU:prog.elem 53=5:=by kernel_rfl
theorem Zfs (w:World):(sizeOf 5).run prog w=.ok 1 w:=by
 obtain⟨c,b,_,a,_⟩:=info_parts ZnJ;simp[sizeOf,typeInfo,b,a]
theorem ZaF:prog.underlying 53=some (.slice (prog.elem 53)):=by rw[ZbU];exact underlying53
theorem ZkP (w:World) (v:Value) (l:List UInt8) (a:Rd w v l) (k:IntKind) (i:Int) (b:0<=i) (d:i<=l.length):
 ∃ v',(Instr.sliceAt 53 v (some (.int k i)) none none).run prog w=.ok v' w∧Rd w v' (l.drop i.toNat):=by
 have h:=a;obtain⟨ao,cap,rfl,c,_⟩:=a;refine⟨sliced ao i.toNat l.length cap 1,?_,?_⟩
 ·rw[run_sliceAt_slice w 53 _ _ _ _ ZaF,run_slice_l w 53 ao l.length cap ZaF k i b (by omega),ZbU,Zfs]
  rfl
 ·have:=h.mid i.toNat l.length cap (by omega) zL c zL
  rw[List.take_of_length_le (by simp)] at this
  exact this
theorem ZiE (w:World) {e:Array Oper} {rest:List Oper} {o:Oper} {a:Act} {Q:Exit->Act->World->Prop} (g:o.guard=none) (x:Operand) (lo d c:Option Operand)
 (j:o.op=.slice 53 x lo d c) (l:List UInt8)
 (b:∃ v',(Instr.sliceAt 53 (a.eval x) (lo.map a.eval) (d.map a.eval) (c.map a.eval)).run prog w=.ok v' w∧Rd w v' l)
 (h:∀ v',Rd w v' l->wpList prog e Q rest (a.put o.dst v') w):wpList prog e Q (o::rest) a w:=
 wpList_plain g fun _ f=>by
  obtain⟨v',b,i⟩:=b;unfold Oper.wp execOp;simp only [j,b,Sem.run_bind,Sem.run_pure,Result.andThen_ok];exact f _ _ (h v' i)
end Go.Proofs.YtnahjngbneicaaaGreatDoor
