import Derived.Test.YtnahjngbneicaaaGreatDoorPack3
import Derived.Sort.OwnSortedInts
namespace Go.Proofs.YtnahjngbneicaaaGreatDoor
open _root_.Go.Proofs.Tryz
open List (getElem_cons_succ getElem_cons_zero getElem_toArray length_cons length_take setIfInBounds_toArray set_cons_succ set_cons_zero)
set_option maxHeartbeats 4000000
set_option maxRecDepth 100000
open Go.RowKit Go.Maps Go.Shelf
variable {B N T b c cap n p r:Nat} {v:Value} {l:List UInt8} {f:Int->Option Nat} {a w w':World} {F:Nat->Prop} {L:Lay} {d:Dk} {u:Int} {ao:Option Addr}
theorem Ztq {l:List Int} (w:World) (h:Qo w B v l) (u:l.length<=10000000):
 Calls prog 67 #[v] w fun e w'=>e=.returned (.tuple #[])∧Qo w' B v (l.mergeSort fun x y=>decide (x<=y))∧w.grownBy w' v.ownBlock:=by
 have f:=h;have c:w.grownBy w v.ownBlock:=⟨rfl,rfl,rfl,Nat.le_refl _,fun _ _ _=>rfl⟩
 rcases h.2 with ⟨rfl,t⟩ | ⟨g,cap,cur,rfl,i,b,m,p,k,d⟩
 ·have e:l=[]:=List.eq_nil_of_length_eq_zero t
  subst e;have a:=Any.slices_Sort_int_none ZyV none 0 w;refine a.mono ?_;rintro e w' ⟨rfl,rfl⟩;exact⟨rfl,by simpa using f,c⟩
 ·by_cases e:l=[]
  ·subst e
   have a:=Any.slices_Sort_int_none ZyV (some ⟨g,0,none⟩) cap w;refine a.mono ?_;rintro e w' ⟨rfl,rfl⟩;exact⟨rfl,by simpa using f,c⟩
  ·have j:Sort.Holds (Value.int .i64) w g 0 l.toArray:=holds_of_blockI b (by rw[Nat.mul_one] at d;exact d)
   have a:=Any.slices_Sort_int ZyV g 0 cap l w j (Array.getElem?_eq_some_iff.1 b).1 (by omega)
   refine a.mono ?_;rintro e w' ⟨rfl,n,os,rfl⟩;refine⟨rfl,?_,grownBy_sortedI _⟩;have q:=ownsRow_sortedI (n:=n) (os:=os) (ss:=l) (ts:=l.mergeSort fun x y=>decide (x<=y)) (by simp) i b m p k
   unfold Qo;rw[show(l.mergeSort fun x y=>decide (x<=y)).length=l.length by simp]
   exact q
structure Met (f:Int->Option Nat) (left:Lit->Bool) (l:List Int):Prop where
 mem:∀ p,I64 p->(p ∈ l↔(f p).isSome=true∧left (.int .i64 p)=false)
 nd:l.Nodup
 i:∀ p ∈ l,I64 p
theorem Met.step {left:Lit->Bool} {l:List Int} (h:Met f left l) {x:Int} (d:I64 x) (g:left (.int .i64 x)=true) (k:(f x).isSome=true):Met f (fun z=>left z && !z.sameKey (.int .i64 x)) (l++[x]):=by
 refine⟨fun p hp=>?_,?_,fun p hp=>?_⟩
 ·rw[List.mem_append,h.mem p hp,List.mem_singleton]
  by_cases e:p=x
  ·subst e
   have c:(Lit.int .i64 p).sameKey (.int .i64 p)=true:=WideAt.sameKey_self (by first | exact trivial | simp[WideAt.IsKeyLit])
   simp[c,k]
  ·have c:(Lit.int .i64 p).sameKey (.int .i64 x)=false:=sameKey_ne (by intro h;injection h with _ h;exact e h)
   simp[c,e]
 ·rw[List.nodup_append]
  refine⟨h.nd,by simp,fun a m b j=>?_⟩
  rw[List.mem_singleton.1 j];rintro rfl;have:=((h.mem a d).1 m).2;rw[g] at this
  cases this
 ·rcases List.mem_append.1 hp with hp | hp
  ·exact h.i p hp
  ·rw[List.mem_singleton.1 hp];exact d
theorem Met.done {left:Lit->Bool} {l:List Int} (h:Met f left l) (v:∀ k,left k=false) {d:Dir} (j:Y5 d) (t:∀ p ∈ d,I64 p.1) (q:∀ p,I64 p->(f p).isSome=(look d p).isSome):(l.mergeSort fun x y=>decide (x<=y))=d.map Prod.fst:=by
 have A:(l.mergeSort fun x y=>decide (x<=y)).Pairwise (fun a b=>decide (a<=b)=true):=List.pairwise_mergeSort (fun a b c e z=>by simp only [decide_eq_true_eq] at *;omega) (fun a b=>by simp only [Bool.or_eq_true,decide_eq_true_eq];omega) l
 have m:=List.mergeSort_perm l fun x y=>decide (x<=y)
 have u:(l.mergeSort fun x y=>decide (x<=y)).Nodup:=m.nodup_iff.2 h.nd
 refine ZfJ ?_ (ZfI j) fun x=>?_
 ·refine(A.and u).imp fun {a b} hab=>?_
  have e:=of_decide_eq_true hab.1;have z:=hab.2;omega
 ·rw[m.mem_iff,List.mem_map]
  constructor
  ·intro g
   have e:=((h.mem x (h.i x g)).1 g).1;rw[q x (h.i x g)] at e;obtain⟨y,w⟩:=Option.isSome_iff_exists.1 e;exact⟨(x,y),(Je j x y).1 w,rfl⟩
  ·rintro⟨p,hpd,rfl⟩
   have n:=t p hpd;have e:look d p.1=some p.2:=(Je j p.1 p.2).2 hpd;exact(h.mem p.1 n).2 ⟨by rw[q p.1 n,e];rfl,v _⟩
theorem Zhv {D:DataW Unit} (h:w.ownsMap prog 3 ZaA b n D):Maps.size D<=n:=by
 obtain⟨d,e,c,F,a,rfl⟩:=h;rw[size_eq,length_sorted];simpa using a
theorem Zoe {a:Nat} {D:DataW Unit} {left:Lit->Bool} (h:w.ranges prog 3 ZaA b r n D left a) (d:w'.heap[b]?=w.heap[b]?) (j:w'.heap[r]?=w.heap[r]?):w'.ranges prog 3 ZaA b r n D left a:=by
 obtain⟨i,e,f,m,g,p,F,l,c,k,rest⟩:=h;exact⟨i,e,f,m,g,d.trans p,F,l,c,j.trans k,rest⟩
theorem Zet (w:World) (h:Q1 F w p L d u N) (C:OkD d) (hN:N<=1000000):
 Calls prog 28 #[ptr p] w fun e w'=>∃ v,e=.returned v∧Qo w' w.heap.size v ((Q6 d).map Prod.fst)∧Below w.heap.size w w':=by
 obtain⟨⟨-,-,c2,-,-,-⟩,-⟩:=h.cells;obtain⟨D,G,Z⟩:=h.rest.now;have au:=ZZ G;have S:Hid (Maps.size D<=N):=ZZ (Zhv G);have aq:Hid (L.now<w.heap.size):=ZZ h.rest.now.lt;have O:Hid (∀ q,I64 q->Maps.has D (.int .i64 q)=(look (Q6 d) q).isSome):=ZZ (fun q z=>by rw[Z.has z];cases look (Q6 d) q <;> rfl)
 have ag:Hid (∀ left l,Met (look (Q6 d)) left l->(∀ k,left k=false)->(l.mergeSort fun x y=>decide (x<=y))=(Q6 d).map Prod.fst):=ZZ (fun left l hm hl=>hm.done hl C.dir.rise (fun p hp=>Zcc (C.dir.may p hp).1) (fun _ _=>rfl))
 clear h G Z C
 go_enter func28,ntmps28
 go_wp2_with(first
  | (at_range;refine wpList_range_own _ rfl _ 65 rfl 3 115 Zby underlying65 ZaA L.now N D rfl au.o ?_;intro w0 ao j aw)
  | go_in)
 go_frame
 go_loopw[3] (fun v wr=>∃ (left:Lit->Bool) (B:Nat) (l:List Int),Hid (wr.ranges prog 3 ZaA L.now w.heap.size N D left B)∧B+l.length<=Maps.size D∧Hid (Qo wr (w.heap.size+1) v l)∧Hid (Met (look (Q6 d)) left l)∧Hid (Below w.heap.size w wr∧w.heap.size+1<=wr.heap.size))
  (fun _ wr=>wr.rangeLeft L.now w.heap.size)
 case atStart=>
  refine⟨_,_,[],ZZ ao,by simp,ZZ (Qo.nil _ _),ZZ ⟨fun q z=>?_,List.nodup_nil,by simp⟩,ZZ ⟨⟨j.os,j.tape,j.output,j.size,fun k a=>j.block k a (by simp)⟩,by omega⟩⟩
  rw[O.o q z]
  cases look (Q6 d) q <;> simp
 case round=>
  obtain⟨left,B,l,aa,aj,m,U,i⟩:=hrel
  go_wp2_with(first
   | (at_next;refine wpList_next_ranges _ rfl _ rfl 3 Zby ZaA (Value.int .i64) (fun b:Nat=>ptr b) (fun key kl a=>by obtain⟨x,rfl,_⟩:=Maps.keyOf_int_inv underlying3 a;exact⟨x,rfl⟩) (fun v y t=>by obtain⟨c,rfl,_⟩:=ZdI t;exact⟨c,rfl⟩) L.now w.heap.size N _ _ _ rfl aa.o ?_ ?_)
   | go_in)
  ·intro al Y
   have af:=ZZ Y;have ar:l.length<=10000000:=by have:=S.o;omega
   have HS:=ZZ (Ztq _ m.o ar);clear al Y
   go_wp2_with fail
   refine HS.o.mono ?_;rintro e W1 ⟨rfl,W,f⟩;have am:Hid (Below w.heap.size w W1):=ZZ (i.o.1.grown f i.o.1.size (fun k a=>by have:=(World.ownsRow.lt m.o k a).1;omega))
   have E:=ZZ W;clear W f;go_wp2;go_ret;refine⟨_,rfl,?_,am.o⟩;rw[<-ag.o _ _ U.o af.o];exact E.o.mono (by omega)
  ·intro x c kl yd yp n M Q J t I V K f ap av
   obtain⟨x',ex,rfl,X⟩:=Maps.keyOf_int_inv underlying3 Q
   cases ex
   have H:=ZZ (Zb X);have HF:Hid ((look (Q6 d) x).isSome=true):=ZZ (by rw[<-O.o x H.o];exact has_true_of_atKey I)
   have an:=ZZ (U.o.step H.o J HF.o);have ad:=ZZ V;have E:Hid (Qo n (w.heap.size+1) _ l):=ZZ (World.ownsRow.kept m.o f (.inr (fun e=>by have:=(World.ownsRow.lt m.o _ e).1;omega)))
   have A:Hid (Below w.heap.size w n∧w.heap.size+1<=n.heap.size):=ZZ ⟨i.o.1.grown f i.o.1.size (fun k a=>by have:=Option.some.inj a;omega),by have:=i.o.2;omega⟩
   have ak:=ZZ K
   have ac:l.length<=1000000∧M+(l++[x]).length<=Maps.size D:=by
    have:=S.o;simp only [List.length_append,List.length_singleton];omega
   have ab:=ZZ ac;clear Q J t I V K f ap X ac aj
   go_wp2_with(at_builtin;refine(fun(h:True->_)=>h trivial) ?_)
   intro _;refine ZeY n rfl _ _ rfl (w.heap.size+1) u3 l rfl E.o x rfl ab.o.1 A.o.2 ?_;intro v2 T P g;have ae:=ZZ P;have R:=ZZ (Zoe ad.o (g.block _ (by have:=aq.o;omega)) (g.block _ (by omega)))
   have ai:Hid (Below w.heap.size w T∧w.heap.size+1<=T.heap.size):=ZZ ⟨A.o.1.trans (g.mono (by omega)),by have:=A.o.2;have:=g.size;omega⟩
   clear P g;go_wp2;go_roundw
   case rel=>exact⟨_,M,l++[x],R,ab.o.2,ae,an,ai⟩
   case measure=>rw[R.o.left_eq,aa.o.left_eq];exact ak.o
theorem Q1.synced (h:Q1 F w p L d u N) (m:Below w.heap.size w a) (y:a.heap.size=w.heap.size+1) (l:Xy a w.heap.size N (fun n=>(look (Q6 d) n).map L.ps)):
 Q1 (Gr F w a) ((a.setCell ⟨p,3,none⟩ (.map (some w.heap.size))).setCell ⟨p,4,none⟩ (.slice none 0 0)) p { L with kept:=w.heap.size,wv:=.slice none 0 0,cs:=[] } { d with kept:=Q6 d,waits:=[] } u N:=by
 have e:=h.more m;have x:=e.rest
 have j:∀ k,k≠p->((a.setCell ⟨p,3,none⟩ (.map (some w.heap.size))).setCell ⟨p,4,none⟩ (.slice none 0 0)).heap[k]?=a.heap[k]?:=fun k f=>by
  rw[Below.heap_setCell _ _ _ _ f,Below.heap_setCell _ _ _ _ f]
 have b:=x.keep e.head (fun k _ f=>j k f)
 refine⟨(e.head.set 3 _).set 4 _,⟨b.now,l.keep (j _ (by have:=h.lt p h.fh;show w.heap.size≠p;omega)),World.ownsRow_nil _ _ _ _,rfl,(fun i c v t=>by simp at t),b.file,b.psn,b.vsn,?_,b.fn,.inr ⟨Nat.le_refl _,by show w.heap.size<_;omega⟩,(fun g q=>by cases q),b.fp,b.fv⟩,e.fh,fun k j=>?_⟩
 ·have:=h.rest.now.lt
  show L.now≠w.heap.size;omega
 ·have:=e.lt k j
  simpa using this
theorem Zof (w:World) (h:Dsk F w p d N T):
 Calls prog 107 #[ptr p] w fun e w'=>ZfU F w p (Xs d).1 (Xs d).2 (N+2) T e w':=by
 have W:=ZZ h;obtain⟨L,h,D,u,v,y⟩:=h;have H:=ZZ h;have t:=ZZ D;have i:=ZZ u;have f:=ZZ (And.intro v y);have c:=ZZ (Zma w h);obtain⟨⟨-,-,O,U,K,-⟩,-,V,Q,-⟩:=h.cells;have R:=ZZ (ZqU h.rest.now);clear D u v y;unfold Xs;by_cases a:d.power=0
 ·rw[if_pos a]
  rw[a] at c;clear a h
  go_enter func107,ntmps107
  go_wp2_with fail
  refine c.o.mono ?_;rintro e w' ⟨rfl,rfl⟩;go_wp2;go_ret;exact ZfU.same W.o (by omega) zL
 rw[if_neg a];have C:(d.power != 0)=true:=by simpa using a
 rw[C] at c;clear a C h
 go_enter func107,ntmps107
 go_wp2_with fail
 refine c.o.mono ?_;rintro e w' ⟨rfl,rfl⟩
 go_wp2_with fail
 refine R.o.mono ?_;rintro e z ⟨rfl,n,g,b⟩;have A:=ZZ (H.out.synced b g n);have E:=ZZ (H.out.more b);have X:=ZZ b;obtain⟨⟨-,-,-,M,q,-⟩,-,G,J,-⟩:=E.o.cells;obtain⟨va,Z,vc,m⟩:=Zer E.o.rest.row;rw[m] at q;have x:Hid (Qj F w' ((z.setCell ⟨p,3,none⟩ (.map (some w'.heap.size))).setCell ⟨p,4,none⟩ (.slice none 0 0))):=ZZ (((Qj.ofBelow b).setCell 3 (fun _=>H.out.fh) _).setCell 4 (fun _=>H.out.fh) _)
 obtain⟨j,l⟩:∃ j,j=(z.setCell ⟨p,3,none⟩ (.map (some w'.heap.size))).setCell ⟨p,4,none⟩ (.slice none 0 0):=⟨_,rfl⟩;rw[<-l] at A x;have B:=ZZ l;have Y:=ZZ g;clear O U K V Q n g b m l
 go_upto_region 5 with fail
 rw[<-B.o];clear B M q G J
 go_wp2_with fail
 refine(Zcb j A.o f.o.2).mono ?_;rintro e W4 ⟨rfl,P,I⟩;go_wp2;go_ret;refine⟨rfl,_,⟨_,P.mono (by omega),Zgx (fs:=d.files) t.o.dir t.o.keep,⟨by have:=i.o.files;show d.files.length<=_;omega,?_,i.o.bytes⟩,f.o.1,Zdb f.o.2⟩,x.o.trans I (fun k hk hf=>?_),fun k hk=>?_⟩
 ·have h1:=i.o.names
  have S:=Zbn d d.waits.length;rw[ZcY] at S;show(Q6 d).length+0<=_;omega
 ·rcases hf with hf | hf
  ·exact hf
  ·omega
 ·rcases hk with hk | hk
  ·exact .inl hk
  ·exact .inr hk.1
open Go.RowKit Go.Maps
open Go.ChangeMaps Go.MapKept
open Go.WideElems (Fit rd rg pl rd_val elemAt)
theorem Zml:∀ {a b:List Int},a.Nodup->(∀ x ∈ a,x ∈ b)->a.length<=b.length
 | [],_,_,_=>Nat.zero_le _
 | x::a,b,hn,hs=>by
  rw[List.nodup_cons] at hn;have d:=hs x (List.mem_cons_self ..);have f:=Zml (a:=a) (b:=b.erase x) hn.2 fun y c=>(List.mem_erase_of_ne (by rintro rfl;exact hn.1 c)).2 (hs y (List.mem_cons_of_mem _ c))
  have g:=List.length_erase_of_mem d;have e:=List.length_pos_of_mem d;rw[length_cons];omega
def toI:Value->Int
 | .int _ x=>x
 | _=>0
theorem Xy.tight (h:Xy w b n f) {l:List Int} (K:∀ p,I64 p->(f p).isSome=true->p ∈ l):Xy w b l.length f:=by
 obtain⟨D,⟨g,t,q,F,O,rfl⟩,v⟩:=h
 have m:∀ e ∈ g.toList,∃ x,e.key=.int .i64 x∧I64 x:=fun e j=>by
  obtain⟨y,i⟩:=F.reads e j;obtain⟨x,d,_,M⟩:=Maps.keyOf_int_inv underlying3 (WideElems.rd_key i);exact⟨x,d,Zb M⟩
 refine⟨_,⟨g,t,q,F,?_,rfl⟩,v⟩
 have B:(g.toList.map fun e=>toI e.key).Nodup:=by
  have A:=((stamped_iff g t).1 F.stamped).2.2;rw[List.Nodup,List.pairwise_map];refine List.Pairwise.imp_of_mem ?_ A;intro a c G I H e;obtain⟨x,d,_⟩:=m a G;obtain⟨y,i,_⟩:=m c I;rw[d,i] at e;have:x=y:=e;exact H (by rw[d,i,this])
 have N:∀ x ∈ (g.toList.map fun e=>toI e.key),x ∈ l:=fun x d=>by
  obtain⟨e,j,rfl⟩:=List.mem_map.1 d;obtain⟨x,d,k⟩:=m e j;rw[d];refine K x k ?_;rcases Maps.fit_look false Zby underlying65 (Ztj w) q F (keyOf_int_mk underlying3 (ZvK k)) with ⟨_,E,_⟩ | ⟨P,y,_,_,_,L,C,_⟩
  ·exact absurd d (E e j)
  ·cases ef:f x with
   | some _=>rfl
   | none=>
    obtain⟨J,_,rfl⟩:=ZdI L;refine(Ztl (x:=J) fun z=>?_).elim
    have u:=C z;rw[v x k z,ef] at u;exact u.symm
 have:=Zml B N;simpa using this
open Go.RowKit
theorem Ztr {s:Nat} {t:TypeId} {xs:List Value} (h:w.ownsRow 0 t s v n xs):∃ ao cap,v=.slice ao n cap∧n<=cap∧((ao=none∧cap=0)∨∃ g,ao=some ⟨g,0,none⟩):=by
 rcases h.2 with ⟨a,b⟩ | ⟨g,cap,cur,a,_,_,c,_⟩
 ·exact⟨none,0,by rw[a,b],by omega,.inl ⟨rfl,rfl⟩⟩
 ·exact⟨some ⟨g,0,none⟩,cap,a,c,.inr ⟨g,rfl⟩⟩
theorem _root_.Go.World.grownBy.trans2 {b c:World} (h:a.grownBy b (some r)) (k:b.grownBy c (some r)):a.grownBy c (some r):=Zhq h k
theorem Q1.lost {l:Dir} (h:Q1 F w p L d u N) (C:w.heap.size<=w'.heap.size)
 (z:∀ k,F k->k≠p->k≠L.now->k≠L.kept->w'.heap[k]?=w.heap[k]?) (y:Bk 69 w' p (Zfm { L with wv:=.slice none 0 0,cs:=[] } d u))
 (m:Xy w' L.now N (fun n=>(look l n).map L.ps)) (x:Xy w' L.kept N (fun n=>(look l n).map L.ps)):
 Q1 F w' p { L with wv:=.slice none 0 0,cs:=[] } { d with kept:=l,waits:=[] } u N:=by
 have a:=h.rest;have e:∀ {t:TypeId} {k:Nat} {cs:Array Value},Bk t w k cs->F k->t≠69->w'.heap[k]?=w.heap[k]?:=fun e j q=>z _ j (e.ne h.head q) (e.neMap a.now) (e.neMap a.kept)
 refine⟨y,⟨m,x,World.ownsRow_nil _ _ _ _,rfl,(fun i c v b=>by simp at b),fun i b=>?_,a.psn,a.vsn,a.nk,a.fn,a.fk,(fun g f=>by cases f),a.fp,a.fv⟩,h.fh,fun k j=>by have:=h.lt k j;omega⟩
 refine(a.file i b).keep (e (a.file i b).box (a.fp i b) (by decide)) fun g f=>?_
 obtain⟨B,A⟩:=J3 (a.file i b).own f;exact e A (a.fv i b g f) (by decide)
theorem Zhw (names:Int) (w:World) (h:Q1 F w p L d u N) (aj:OkD d) (ag:Bnd d N T) (hN:N<=1000000):
 Calls prog 31 #[ptr p,.int .i64 names] w fun e w'=>e=.returned (.tuple #[])∧Q1 F w' p { L with wv:=.slice none 0 0,cs:=[] } { d with kept:=Zy d (Zx names d.waits.length),waits:=[] } u N∧Qj F w w':=by
 have H:=ZZ h;have ax:=ZZ aj;have aU:=ZZ ag;have hW:d.waits.length<=N:=by have:=ag.names;omega
 obtain⟨K,hK⟩:∃ K,K=Zx names d.waits.length:=⟨_,rfl⟩;have aX:K<=d.waits.length:=by rw[hK];exact Zea _ _
 rw[<-hK];have ar:Hid (∀ q,Calls prog 72 #[.int .i64 names,.int .i64 (d.waits.length:Int)] (w.drewN q) fun e w'=>e=.returned (.int .i64 (K:Int))∧w'=w.drewN q):=ZZ (fun q=>by rw[hK];exact Zmc names d.waits.length (by omega) (w.drewN q))
 obtain⟨⟨-,-,-,c3,c4,-⟩,-,-,f4,-⟩:=h.cells;obtain⟨ao,cap,J,aJ,ad⟩:=Ztr h.rest.row;rw[h.rest.many] at J aJ;rw[J] at c4;have a2:=ZZ J
 have az:Hid (∀ k,k<K->∃ g c z,ao=some ⟨g,0,none⟩∧d.waits[k]?=some c∧ChV F w L.ps c z∧w.cell? ⟨g,k,none⟩=some z∧ZsI d.files.length c∧Zy d (k+1)=chD (Zy d k) c∧g≠L.kept):=ZZ (fun k hk=>by
  have R:k<d.waits.length:=by omega
  have av:k<L.cs.length:=by rw[h.rest.many];exact R
  rcases ad with ⟨_,aZ⟩ | ⟨g,rfl⟩
  ·omega
  ·have aG:L.wv.ownBlock=some g:=by rw[J];rfl
   refine⟨g,d.waits[k],L.cs[k],rfl,List.getElem?_eq_getElem R,h.rest.wait k _ _ (List.getElem?_eq_getElem R) (List.getElem?_eq_getElem av),?_,aj.chs _ (List.getElem_mem R),ZsM d R,?_⟩
   ·have:=World.ownsRow.cells h.rest.row aG k _ (List.getElem?_eq_getElem av)
    rw[Addr.add_lit,Nat.zero_add] at this;exact this
   ·obtain⟨a0,aT⟩:=J3 h.rest.row aG
    exact aT.neMap h.rest.kept)
 clear aj ag J ad hK h
 go_enter func31,ntmps31
 go_wp2;refine wp_region_quiet_lit (by kernel_rfl) (by kernel_rfl) ?_
 repeat (go_big_quiet_step ((go_at_call 72;exact Calls.quiet_of_same (ar.o _))))
 refine wpQuiet_nil ?_;rintro _ ⟨nq,rfl⟩;have a:Hid (Q1 F (w.drewN nq) p L d u N):=ZZ (H.out.drewN nq)
 have ai:Hid (∀ k,k<K->∃ g c z,ao=some ⟨g,0,none⟩∧d.waits[k]?=some c∧ChV F (w.drewN nq) L.ps c z∧(w.drewN nq).cell? ⟨g,k,none⟩=some z∧ZsI d.files.length c∧Zy d (k+1)=chD (Zy d k) c∧g≠L.kept):=ZZ (fun k hk=>by
  obtain⟨g,c,z,t,v,G,h4,h5,h6⟩:=az.o k hk
  exact⟨g,c,z,t,v,G.keep (fun _ i=>i) (fun _ _=>rfl) (fun _ _ _ _=>rfl),h4,h5,h6⟩)
 have am:Hid (Qj F w (w.drewN nq)):=ZZ ((Qj.refl _ _).drewN nq);obtain⟨W,aD⟩:∃ W,W=w.drewN nq:=⟨_,rfl⟩;rw[<-aD] at a ai am ⊢;clear aD ar az c3 c4 f4 H;go_wp2
 go_loopw[19] (fun vi wr=>∃ k:Nat,vi=.int .i64 (k:Int)∧k<=K∧Hid (Xy wr L.kept (N+k) (fun n=>(look (Zy d k) n).map L.ps))∧Hid (W.grownBy wr (some L.kept))) (fun vi _=>K-(intOf vi).toNat)
 case atStart=>exact⟨0,rfl,Nat.zero_le _,ZZ (by rw[ZlC];exact a.o.rest.kept),ZZ ⟨rfl,rfl,rfl,Nat.le_refl _,fun _ _ _=>rfl⟩⟩
 case round=>
  obtain⟨k,rfl,a1,U,y⟩:=hrel;have ac:=ZZ (a.o.head.keep (y.o.block p a.o.head.lt (fun e=>(a.o.head.neMap a.o.rest.kept) (Option.some.inj e))))
  by_cases aK:k<K
  ·obtain⟨g,c,z,ad,hc,Y,M,Q,aB,aC⟩:=ai.o k aK
   have ae:Hid (∀ n',look (Zy d (k+1)) n'=chF (look (Zy d k)) c n'):=ZZ (fun n'=>by rw[aB];exact ZcX (ax.o.dirs k).rise c (Zmh Q) n')
   have Y:ChV F wr L.ps c z:=Y.keep (fun _ i=>i) (fun _ _=>rfl) (fun j cs i hb=>y.o.block j (a.o.lt j i) (fun e=>by
    rcases hb with hb | hb <;> exact(hb.neMap a.o.rest.kept) (Option.some.inj e)))
   have M:wr.cell? ⟨g,k,none⟩=some z:=(y.o.cell M (fun e=>aC (Option.some.inj e)))
   obtain⟨d3,-⟩:=ac.o.cell 3 rfl;subst ad;clear aB aC hc
   cases c with
   | give n f=>
    obtain⟨b1,b2,B,t,v,-,-⟩:=Y;have P:=ZZ (Zme (f:=f) Q.1 wr t v U.o (by omega))
    rw[B] at M;clear B t v
    go_wp2_with fail
    refine P.o.mono ?_;rintro e I ⟨rfl,A,C⟩;have O:Hid (Xy I L.kept (N+(k+1)) (fun n=>(look (Zy d (k+1)) n).map L.ps)):=ZZ (A.fun fun n' _=>by rw[ae.o])
    have V:=ZZ (y.o.trans2 C);clear A C;go_wp2;go_roundw
    case rel=>exact⟨k+1,by go_num,by omega,O,V⟩
    case measure=>simp[intOf];omega
   | move n m f=>
    obtain⟨b1,b2,b3,B,t,v,G,-,-,-⟩:=Y;have P:=ZZ (Zmf (f:=f) Q.1 Q.2.1 wr t v G U.o (by omega))
    rw[B] at M;clear B t v G
    go_wp2_with fail
    refine P.o.mono ?_;rintro e I ⟨rfl,A,C⟩;have O:Hid (Xy I L.kept (N+(k+1)) (fun n=>(look (Zy d (k+1)) n).map L.ps)):=ZZ (A.fun fun n' _=>by rw[ae.o])
    have V:=ZZ (y.o.trans2 C);clear A C;go_wp2;go_roundw
    case rel=>exact⟨k+1,by go_num,by omega,O,V⟩
    case measure=>simp[intOf];omega
   | take n=>
    obtain⟨b1,B,t,-⟩:=Y;have P:=ZZ (Zmg Q wr t U.o );rw[B] at M;clear B t
    go_wp2_with fail
    refine P.o.mono ?_;rintro e I ⟨rfl,A,C⟩;have O:Hid (Xy I L.kept (N+(k+1)) (fun n=>(look (Zy d (k+1)) n).map L.ps)):=ZZ (A.fun fun n' _=>by rw[ae.o])
    have V:=ZZ (y.o.trans2 C);clear A C;go_wp2;go_roundw
    case rel=>exact⟨k+1,by go_num,by omega,O,V⟩
    case measure=>simp[intOf];omega
  ·have aV:Hid (k=K):=ZZ (by omega)
   obtain⟨va,vn,vc,aA⟩:=Zer a.o.rest.row;obtain⟨d4,e4⟩:=ac.o.cell 4 rfl;obtain⟨d2,-⟩:=ac.o.cell 2 rfl;have an:wr.cell? ⟨p,4,none⟩=some L.wv:=d4;rw[aA] at an;have Z:=ZZ (ac.o.set 4 (.slice none 0 0));have aF:Hid (Xy (wr.setCell ⟨p,4,none⟩ (.slice none 0 0)) L.now N (fun n=>(look (Q6 d) n).map L.ps)):=ZZ (a.o.rest.now.keep ((Below.heap_setCell _ _ _ _ (a.o.head.neMap a.o.rest.now).symm).trans (y.o.block _ a.o.rest.now.lt (fun e=>a.o.rest.nk (Option.some.inj e)))))
   have af:Hid (Xy (wr.setCell ⟨p,4,none⟩ (.slice none 0 0)) L.kept (N+k) (fun n=>(look (Zy d k) n).map L.ps)):=ZZ (U.o.keep (Below.heap_setCell _ _ _ _ (a.o.head.neMap a.o.rest.kept).symm))
   obtain⟨D,E⟩:∃ D,D=wr.setCell ⟨p,4,none⟩ (.slice none 0 0):=⟨_,rfl⟩
   have aQ:Hid (Qj F w D):=ZZ (by
    rw[E]
    exact(am.o.trans (Qj.ofGrown y.o (fun j e _=>by obtain rfl:=Option.some.inj e;exact a.o.rest.fk)) (fun _ _ i=>i)).setCell 4 (fun _=>a.o.fh) _)
   have aN:Hid (∀ j,F j->j≠p->j≠L.kept->D.heap[j]?=W.heap[j]?):=ZZ (fun j i t v=>by
    rw[E,Below.heap_setCell _ _ _ _ t]
    exact y.o.block j (a.o.lt j i) (fun e=>v (Option.some.inj e)))
   have aO:Hid (W.heap.size<=D.heap.size):=ZZ (by rw[E];have:=y.o.size;simpa using this)
   rw[<-E] at Z aF af;have aw:=ZZ E;clear aA d4 E U ai
   go_upto_region 6 with fail
   rw[<-aw.o];clear aw an e4 d2;obtain⟨d2,-⟩:=Z.o.cell 2 rfl
   go_wp2_with(first | (with_reducible refine ZiX D rfl _ rfl L.now N _ rfl aF.o ?_);intro x ay ab)
   have al:=ZZ (Z.o.keep (ab.block p Z.o.lt (fun e=>(a.o.head.neMap a.o.rest.now) (Option.some.inj e))))
   have au:=ZZ (af.o.keep (ab.block _ af.o.lt (fun e=>a.o.rest.nk (Option.some.inj e).symm)))
   have aH:=ZZ ay;have ak:=ZZ ab;clear ay ab d2;have d2:x.cell? ⟨p,2,none⟩=some (.map (some L.now)):=(al.o.cell 2 rfl).1;have d3:x.cell? ⟨p,3,none⟩=some (.map (some L.kept)):=(al.o.cell 3 rfl).1;have aI:N+k<=10000000:=by omega
   have ap:Hid (∀ (X:World) (b n:Nat),Xy X b n (fun n=>(look (Zy d k) n).map L.ps)->Xy X b N (fun n=>(look (Zy d k) n).map L.ps)):=ZZ (fun _ _ _ hm=>(hm.tight (l:=(Zy d k).map Prod.fst) (fun q _ hq=>by
    cases e:look (Zy d k) q with
    | none=>rw[e] at hq;cases hq
    | some f=>exact List.mem_map.2 ⟨(q,f),(Je (ax.o.dirs k).rise q f).1 e,rfl⟩)).mono (by
     have t:=Zbn d k;have v:=aU.o.names;simp only [List.length_map]
     omega))
   have aM:=ZZ (ZvM (w:=x.drew) (aH.o.keep rfl) (au.o.keep rfl) a.o.rest.nk aI)
   go_upto_region 7 with fail
   go_region_with
    (first
     | (go_at_call 73;refine aM.o.mono ?_;rintro e W4 ⟨rfl,aq,aE⟩;have aL:=ZZ aq;have S:=ZZ aE;clear aq aE))
   all_goals
    go_wp2;go_end0;have aR:x.heap.size<=W4.heap.size:=S.o.size;have aa:∀ j,j<x.heap.size->j≠L.now->W4.heap[j]?=x.heap[j]?:=fun j hj hn=>S.o.block j hj (fun e=>hn (Option.some.inj e))
    have aW:=ak.o.size;have aY:=aO.o;have aP:p<x.heap.size:=by have:=a.o.head.lt;omega
    have aS:L.kept<x.heap.size:=by have:=a.o.rest.kept.lt;omega
    rw[<-aV.o];refine⟨rfl,a.o.lost (l:=Zy d k) (by omega) (fun j i t v G=>?_) ?_ (ap.o _ _ _ aL.o) (ap.o _ _ _ (au.o.keep (aa _ aS (Ne.symm a.o.rest.nk)))),?_⟩
    ·have hj:=a.o.lt j i
     rw[aa j (by omega) v,ak.o.block j (by omega) (fun e=>v (Option.some.inj e))]
     exact aN.o j i t G
    ·exact al.o.keep (aa p aP (a.o.head.neMap a.o.rest.now))
    ·have o3:Qj F D x:=Qj.ofGrown ak.o (fun j e _=>by obtain rfl:=Option.some.inj e;exact a.o.rest.fn)
     have o4:Qj F x W4:=⟨S.o.os,S.o.tape,S.o.output,aR,fun j hj hn=>aa j hj (fun e=>hn (by rw[e];exact a.o.rest.fn))⟩
     exact(aQ.o.trans o3 (fun _ _ i=>i)).trans o4 (fun _ _ i=>i)
theorem Zre (h:Own w 0 v l):∃ ao cap,v=.slice ao l.length cap∧l.length<=cap∧((ao=none∧cap=0)∨∃ g,ao=some ⟨g,0,none⟩):=Ztr h
theorem Q1.cutFile {f k:Nat} (h:Q1 F w p L d u N) (l:f<d.files.length) (n:L.vs f=.slice ao (fl d.files f).b.length cap) (v:k<=(fl d.files f).b.length):
 Q1 F ((w.setCell ⟨L.ps f,1,none⟩ (.int .i64 (k:Int))).setCell ⟨L.ps f,0,none⟩ (.slice ao k cap)) p { L with vs:=fun i=>if i=f then .slice ao k cap else L.vs i } { d with files:=d.files.set f ⟨(fl d.files f).b.take k,k⟩ } u N:=by
 have c:=h.rest.file f l
 have t:∀ g,(L.vs f).ownBlock=some g->g≠L.ps f:=fun g a=>by
  obtain⟨z,y⟩:=J3 c.own a;exact y.ne c.box (by decide)
 have e:(Value.slice ao k cap).ownBlock=(L.vs f).ownBlock:=by rw[n];cases ao <;> rfl
 have x:Own w 0 (.slice ao k cap) ((fl d.files f).b.take k):=by
  have:=c.own;rw[n] at this;exact this.front k v
 refine h.setFile (F':=F) l (fun j _ q _=>by rw[Below.heap_setCell _ _ _ _ q,Below.heap_setCell _ _ _ _ q]) ⟨(c.box.set 1 _).set 0 _,Qh x fun g a=>?_⟩ (.inl e) (fun _ m=>m) (fun g a=>h.rest.fv f l g (by rw[<-e];exact a)) (fun j m=>by simpa using h.lt j m)
 have:=t g (by rw[<-e];exact a)
 rw[Below.heap_setCell _ _ _ _ this,Below.heap_setCell _ _ _ _ this]
theorem Zts (h:n<=1000000000000000):IntKind.i64.wrap (n:Int)=(n:Int):=by
 rw[IntKind.wrap_i64];omega
theorem Zbz {l:Dir} {i:Nat} (h:i<l.length):l.take (i+1)=l.take i++[l[i]]:=List.take_succ_eq_append_getElem h
theorem Zfn {l:Dir} (h:ZbC l) {i:Nat} (c:i<l.length):∀ p ∈ l.take i,p.2≠l[i].2:=by
 intro p b;have a:ZbC (l.take (i+1)):=List.Pairwise.sublist (List.take_sublist _ _) h;rw[Zbz c] at a;exact(List.pairwise_append.1 a).2.2 p b _ (List.mem_singleton.2 rfl)
theorem Zmm (keep:List Int) {l:Dir} (h:ZbC l) {i:Nat} (a:i<l.length) (fs:List Fl):Qu keep (l.take (i+1)) 0 fs=(Qu keep (l.take i) 0 fs).set l[i].2 (Zjv (fl fs l[i].2) (Zgl keep i)):=by
 rw[Zbz a,ZgM,Zbi keep _ 0 fs _ (Zfn h a)];have:(l.take i).length=i:=by rw[length_take];omega
 rw[this,Nat.zero_add]
theorem Zrf (keep:List Int) {l:Dir} (h:ZbC l) {i:Nat} (a:i<l.length) {fs:List Fl} (g:l[i].2<fs.length) (f:∀ x ∈ fs,x.k<=x.b.length):
 Y1 (Qu keep (l.take (i+1)) 0 fs) (l.take (i+1))=Y1 (Qu keep (l.take i) 0 fs) (l.take i)+(Zjv (fl fs l[i].2) (Zgl keep i)).k:=by
 rw[Zmm keep h a];have d:Y1 ((Qu keep (l.take i) 0 fs).set l[i].2 (Zjv (fl fs l[i].2) (Zgl keep i))) (l.take i)=Y1 (Qu keep (l.take i) 0 fs) (l.take i):=ZkG fun p c=>by rw[Zab (fun e=>Zfn h a p c e.symm)]
 have j:(fl ((Qu keep (l.take i) 0 fs).set l[i].2 (Zjv (fl fs l[i].2) (Zgl keep i))) l[i].2).b.length=(Zjv (fl fs l[i].2) (Zgl keep i)).k:=by
  rw[ZbR (by rw[Jj];exact g),ZpF (ZgN f _)]
 rw[Zbz a,ZdJ,d,Zai,ZgC,j];rfl
theorem ZcH (keep:List Int):∀ (l:Dir) (i:Nat) (fs:List Fl),(∀ x ∈ fs,x.b.length<=T)->(∀ p ∈ l,p.2<fs.length)->∀ x ∈ Qu keep l i fs,x.b.length<=T
 | [],_,_,h,_=>h
 | p::l,i,fs,h,hl=>by
  rw[Qu];refine ZcH keep l (i+1) _ (fun x a=>?_) (fun q c=>by rw[List.length_set];exact hl q (List.mem_cons_of_mem _ c))
  rcases List.mem_or_eq_of_mem_set a with a | rfl
  ·exact h x a
  ·have:=h _ (ZbE (hl p (List.mem_cons_self ..)))
   simp only [Zjv,length_take];omega
theorem ZkJ (vk:Value) (keep:List Int) (w:World) (h:Q1 F w p L d u N) (hw:d.waits=[]) (ax:OkD d) (aF:Bnd d N T) (hN:N<=1000000) (hT:T<=1000000000) (hr:RdI w vk keep) (aI:keep=[]∨∀ k,vk.ownBlock=some k->¬ F k) (bm:keep.length<=1000000000):
 Calls prog 32 #[ptr p,vk] w fun e w'=>e=.returned (.tuple #[])∧(∃ L',Q1 F w' p L' { d with files:=Qu keep d.kept 0 d.files } (Y1 (Qu keep d.kept 0 d.files) d.kept:Nat) N)∧Qj F w w':=by
 have H:=ZZ h;have aT:=ZZ ax;have a2:=ZZ aF;have aK:=ZZ hr;have bi:=ZZ aI;obtain⟨⟨-,c1,-,-,-,-⟩,f1,-⟩:=h.cells;obtain⟨ka,kc,rfl,-⟩:=hr;obtain⟨l,hl⟩:∃ l,l=d.kept:=⟨_,rfl⟩;have aV:Hid (Q6 d=l):=ZZ (by unfold Q6;rw[hw,hl];rfl)
 have aU:Hid (l.length<=N):=ZZ (by have:=aF.names;rw[hl];omega)
 have Z:Hid (OkL d.files.length l):=ZZ (by rw[hl];exact ax.kept)
 have a8:=ZZ hl;have af:=ZZ (h.setHead 1 (.int .i64 0) (d':=d) (u':=0) ⟨rfl,rfl,rfl⟩ rfl);have aw:Hid (Qj F w (w.setCell ⟨p,1,none⟩ (.int .i64 0))):=ZZ ((Qj.refl _ _).setCell 1 (fun _=>h.fh) _)
 obtain⟨W1,aH⟩:∃ W1,W1=w.setCell ⟨p,1,none⟩ (.int .i64 0):=⟨_,rfl⟩;rw[<-aH] at af aw;have aN:=ZZ (Zet W1 af.o ax hN);have aQ:=ZZ (aK.o.onlyE aw.o aI);have aY:=ZZ aH;clear aH h ax aF aI hl hw
 go_enter func32,ntmps32
 go_upto_region 1 with fail
 rw[<-aY.o];clear aY c1 f1
 go_wp2_with fail
 refine aN.o.mono ?_;rintro e W2 ⟨vn,rfl,aC,ag⟩;rw[aV.o] at aC
 have ba:Hid (∀ x ∈ l.map Prod.fst,I64 x):=ZZ (fun x hx=>by
  obtain⟨q,hq,rfl⟩:=List.mem_map.1 hx
  exact Zcc (Z.o.may q hq).1)
 have aX:=ZZ (aC.rd ba.o)
 have bd:Hid (∀ k,vn.ownBlock=some k->¬ F k):=ZZ (fun k hk hf=>by
  have E:=(World.ownsRow.lt aC k hk).1;have M:=af.o.lt k hf
  omega)
 have bf:Hid (Q1 F W2 p L d 0 N):=ZZ (af.o.keep (fun k hf=>ag.block k (af.o.lt k hf)) ag.size)
 have bc:Hid (Qj F w W2):=ZZ (aw.o.trans (G:=fun _=>False) (Qj.ofBelow ag) (fun _ _ hf=>hf.elim))
 have bg:=ZZ (aQ.o.below ag zL);obtain⟨na,nc,rfl,-⟩:=aX.o;clear aC ag aN aQ aK af aw H;have bj:(l.map Prod.fst).length=l.length:=List.length_map ..;rw[bj];go_wp2
 go_loopw[14] (fun vi wr=>∃ i:Nat,vi=.int .i64 (i:Int)∧i<=l.length∧∃ B,Hid (Q1 F wr p B { d with files:=Qu keep (l.take i) 0 d.files } (Y1 (Qu keep (l.take i) 0 d.files) (l.take i):Nat) N)∧Hid (Qj F W2 wr)) (fun vi _=>l.length-(intOf vi).toNat)
 case atStart=>exact⟨0,rfl,Nat.zero_le _,L,by simpa[Qu,Y1] using bf,ZZ (Qj.refl _ _)⟩
 case round=>
  obtain⟨i,rfl,bo,B,D,av⟩:=hrel;by_cases O:i<l.length
  case neg=>
   have hi:i=l.length:=by omega
   subst hi;rw[List.take_length,a8.o] at D;go_wp2;go_end0;exact⟨rfl,⟨B,D.o⟩,bc.o.trans av.o (fun _ _ hf=>hf)⟩
  obtain⟨n,f,ab⟩:∃ n f,l[i]=(n,f):=⟨_,_,rfl⟩;have aA:(n,f) ∈ l:=by rw[<-ab];exact List.getElem_mem O
  have aD:f<d.files.length:=(Z.o.may _ aA).2;have aM:I64 n:=Zcc (Z.o.may _ aA).1;have aO:(Qu keep (l.take i) 0 d.files).length=d.files.length:=Jj _ _ _ _;obtain⟨x,hx⟩:∃ x,x=fl d.files f:=⟨_,rfl⟩
  have am:fl (Qu keep (l.take i) 0 d.files) f=x:=by
   rw[hx];refine Zbi keep _ 0 _ _ fun q hq=>?_
   have:=Zfn Z.o.apart O q hq;rw[ab] at this;exact this
  have aa:Hid (ZlZ wr (B.ps f) (B.vs f) x):=ZZ (by
   have:=D.o.rest.file f (by show f<(Qu keep (l.take i) 0 d.files).length;omega)
   rw[<-am]
   exact this)
  have a9:x.k<=x.b.length:=by rw[hx];exact ZgN aT.o.keep f
  have a7:x.b.length<=T:=by rw[hx];exact a2.o.bytes _ (ZbE aD)
  obtain⟨ao,cap,aB,a4,bz⟩:=Zre aa.o.own;have z:wr.cell? ⟨B.ps f,0,none⟩=some (.slice ao x.b.length cap):=by rw[<-aB];exact(aa.o.box.cell 0 rfl).1
  have y0:wr.frozen? ⟨B.ps f,0,none⟩=false:=(aa.o.box.cell 0 rfl).2;have g1:wr.cell? ⟨B.ps f,1,none⟩=some (.int .i64 (x.k:Int)):=(aa.o.box.cell 1 rfl).1;have y1:wr.frozen? ⟨B.ps f,1,none⟩=false:=(aa.o.box.cell 1 rfl).2;obtain⟨U,hU⟩:∃ U:Nat,U=Y1 (Qu keep (l.take i) 0 d.files) (l.take i):=⟨_,rfl⟩
  have bk:U<=1000000000000000:=by
   rw[hU];have E:=Zoc (T:=T) (fs:=Qu keep (l.take i) 0 d.files) (ZcH keep _ 0 _ a2.o.bytes (fun q hq=>(Z.o.may q (List.mem_of_mem_take hq)).2)) (l.take i) (fun q hq=>by rw[aO];exact(Z.o.may q (List.mem_of_mem_take hq)).2)
   have M:(l.take i).length<=N:=by have:=aU.o;rw[length_take];omega
   have h3:(l.take i).length*T<=1000000*1000000000:=Nat.mul_le_mul (by omega) hT
   omega
  rw[<-hU] at D;have k1:wr.cell? ⟨p,1,none⟩=some (.int .i64 (U:Int)):=D.o.cells.1.2.1;have j1:wr.frozen? ⟨p,1,none⟩=false:=D.o.cells.2.1;have k2:wr.cell? ⟨p,2,none⟩=some (.map (some B.now)):=D.o.cells.1.2.2.1
  have aJ:(Instr.lookup 65 (.map (some B.now)) (.int .i64 n) false).run prog wr=.ok (.pointer (some ⟨B.ps f,0,none⟩)) wr:=by
   have E:=D.o.rest.now.look1 aM
   have M:look (Q6 { d with files:=Qu keep (l.take i) 0 d.files }) n=some f:=by
    show look (Q6 d) n=some f;rw[aV.o];exact(Je Z.o.rise n f).2 aA
   rw[M] at E;exact E
  obtain⟨nb,aj,rfl,aR⟩:∃ nb aj,na=some ⟨nb,aj,none⟩∧wr.cell? ⟨nb,aj+i,none⟩=some (.int .i64 n):=by
   have E:=aX.o.only av.o bd.o;obtain⟨a',c',al,_,_,_,_,h6⟩:=E;simp only [Value.slice.injEq] at al;obtain⟨rfl,_,rfl⟩:=al;rcases h6 with h6 | ⟨nb,aj,rfl,h7⟩
   ·have:l=[]:=by simpa using h6
    rw[this] at O;simp at O
   ·refine⟨nb,aj,rfl,?_⟩
    have h8:=h7 i (by simpa using O)
    rw[h8];simp[List.getD,O,ab]
  obtain⟨A,hA⟩:∃ A,A=Zgl keep i:=⟨_,rfl⟩;obtain⟨m,hm⟩:∃ m,m=x.b.length-x.k:=⟨_,rfl⟩;have a3:(x.b.length:Int)-(x.k:Int)=(m:Int):=by omega
  obtain⟨sh,az⟩:∃ sh,sh=Zx A m:=⟨_,rfl⟩;have bb:sh<=m:=by rw[az];exact Zea _ _
  obtain⟨y,a0⟩:∃ y,y=x.k+sh:=⟨_,rfl⟩;have be:(x.k:Int)+(sh:Int)=(y:Int):=by omega
  have aZ:y<=x.b.length:=by omega
  have ac:Hid (∀ W,Calls prog 72 #[.int .i64 A,.int .i64 (m:Int)] W fun e w'=>e=.returned (.int .i64 (sh:Int))∧w'=W):=ZZ (fun W=>by rw[az];exact Zmc A m (by omega) W)
  have aW:Hid (Zjv x A=⟨x.b.take y,y⟩):=ZZ (by rw[a0,az,hm];rfl)
  have aG:Hid (Q1 F (((wr.setCell ⟨B.ps f,1,none⟩ (.int .i64 (y:Int))).setCell ⟨B.ps f,0,none⟩ (.slice ao y cap)).setCell ⟨p,1,none⟩ (.int .i64 ((U:Int)+(y:Int)))) p { B with vs:=fun j=>if j=f then .slice ao y cap else B.vs j } { d with files:=Qu keep (l.take (i+1)) 0 d.files } (Y1 (Qu keep (l.take (i+1)) 0 d.files) (l.take (i+1)):Nat) N):=ZZ (by
   have E:=D.o.cutFile (f:=f) (k:=y) (ao:=ao) (cap:=cap) (by show f<(Qu keep (l.take i) 0 d.files).length;omega) (by show B.vs f=.slice ao (fl (Qu keep (l.take i) 0 d.files) f).b.length cap;rw[am];exact aB) (by show y<=(fl (Qu keep (l.take i) 0 d.files) f).b.length;rw[am];exact aZ)
   have M:=Zrf keep Z.o.apart O (fs:=d.files) (by rw[ab];exact aD) aT.o.keep
   have h3:=Zmm keep Z.o.apart O d.files;rw[ab,<-hx,<-hA,aW.o] at M h3;rw[M,h3,<-hU]
   dsimp only at E
   rw[am] at E;have e1:((U+y:Nat):Int)=(U:Int)+(y:Int):=by omega
   show Q1 F _ p _ _ ((U+y:Nat):Int) N;rw[e1]
   exact E.setHead 1 _ ⟨rfl,rfl,rfl⟩ rfl)
  have K:Hid (Qj F W2 (((wr.setCell ⟨B.ps f,1,none⟩ (.int .i64 (y:Int))).setCell ⟨B.ps f,0,none⟩ (.slice ao y cap)).setCell ⟨p,1,none⟩ (.int .i64 ((U:Int)+(y:Int))))):=ZZ (((av.o.setCell 1 (fun _=>D.o.rest.fp f (by show f<(Qu keep (l.take i) 0 d.files).length;omega)) _).setCell 0 (fun _=>D.o.rest.fp f (by show f<(Qu keep (l.take i) 0 d.files).length;omega)) _).setCell 1 (fun _=>D.o.fh) _)
  have aq:Hid (p≠B.ps f):=ZZ (D.o.head.ne aa.o.box (by decide))
  obtain⟨P,hP⟩:∃ P,P=B.ps f:=⟨_,rfl⟩;have ap:Hid (Bk 117 wr (B.ps f) #[.slice ao x.b.length cap,.int .i64 (x.k:Int)]):=ZZ (by rw[<-aB];exact aa.o.box)
  obtain⟨DI,aS⟩:∃ DI,DI={ d with files:=Qu keep (l.take i) 0 d.files }:=⟨_,rfl⟩
  have aL:Hid (Bk 69 wr p (Zfm B DI (U:Int))):=ZZ (by rw[aS];exact D.o.head)
  clear aS;rw[<-hP] at z y0 g1 y1 aJ aG K aq ap;obtain⟨X,a1⟩:∃ X,X=x.b.length:=⟨_,rfl⟩;obtain⟨xk,aP⟩:∃ xk,xk=x.k:=⟨_,rfl⟩;rw[<-a1] at z a3 aZ a7 a4 ap;rw[<-aP] at g1 a3 be ap;have bv:y<=cap:=by omega
  have HA:=ZZ hA;have a6:=ZZ (bg.o.onlyE av.o bi.o);clear ab aA aD aM aO hx am a9 aB hU hA hm az bb a0 hP a1 aP aa D av aW;have ay:=ZZ O;have bw:i<=1000000:=by have:=aU.o;omega
  have bA:IntKind.i64.wrap (m:Int)=(m:Int):=Zts (by omega)
  have bt:IntKind.i64.wrap (y:Int)=(y:Int):=Zts (by omega)
  have ae:Hid ((wr.setCell ⟨P,1,none⟩ (.int .i64 (y:Int))).cell? ⟨P,0,none⟩=some (.slice ao X cap)):=ZZ (by
   rw[World.cell?_setCell_other _ _ _ _ (by intro h;injection h with _ h;cases h)]
   exact z)
  by_cases ad:keep.length=0
  ·have e0:A=0:=by rw[HA.o];exact if_pos ad
   subst e0;have bn:decide ((keep.length:Int)>0)=false:=decide_eq_false (by omega)
   have bp:decide (0<keep.length)=false:=decide_eq_false (by omega)
   clear ad
   go_upto_region 7 with fail
   clear aR aJ k2
   go_cut[] (fun wd=>Hid (∃ q,wd=(wr.setCell ⟨P,1,none⟩ (.int .i64 (y:Int))).drewN q))
   case first=>
    refine wp_region_held_drew (S:=fun w'=>w'.cell? ⟨P,0,none⟩=some (.slice ao X cap)) (by kernel_rfl) (by exact z) (fun C=>?_)
    refine wpAnyH_take (i:=0) (v:=?_) rfl (by kernel_rfl) (by kernel_rfl) (by kernel_rfl) (fun _ _ _ h=>h) (Or.inl ⟨by rfl,?_⟩) (by assumption) ?_
    rotate_left
    ·intro c g
     go_simp
     try with_reducible rfl
    simp only [Act.put,getElem_toArray,getElem_cons_zero,setIfInBounds_toArray,set_cons_zero,set_cons_succ];refine wpAnyH_take (i:=1) (v:=?_) rfl (by kernel_rfl) (by kernel_rfl) (by kernel_rfl) (fun _ _ _ h=>h) (Or.inl ⟨by rfl,?_⟩) (by assumption) ?_
    rotate_left
    ·intro c g
     go_simp
     try with_reducible rfl
    simp only [Act.put,getElem_toArray,getElem_cons_zero,getElem_cons_succ,setIfInBounds_toArray,set_cons_zero,set_cons_succ];refine wpAnyH_take (i:=2) (v:=?_) rfl (by kernel_rfl) (by kernel_rfl) (by kernel_rfl) (fun _ _ _ h=>h) (Or.inl ⟨by rfl,?_⟩) (by assumption) ?_
    rotate_left
    ·intro c g
     go_simp
     try with_reducible rfl
    simp only [Act.put,getElem_toArray,getElem_cons_zero,getElem_cons_succ,setIfInBounds_toArray,set_cons_zero,set_cons_succ];refine wpAnyH_take (i:=4) (v:=?_) rfl (by kernel_rfl) (by kernel_rfl) (by kernel_rfl) (fun _ _ _ h=>h) (Or.inl ⟨by rfl,?_⟩) (by assumption) ?_
    rotate_left
    ·intro c g
     go_simp
     try with_reducible rfl
    simp only [Act.put,getElem_toArray,getElem_cons_zero,getElem_cons_succ,setIfInBounds_toArray,set_cons_zero,set_cons_succ];refine wpAnyH_take (i:=5) (v:=?_) rfl (by kernel_rfl) (by kernel_rfl) (by kernel_rfl) (fun _ _ _ h=>h) (Or.inl ⟨by rfl,?_⟩) (by assumption) ?_
    rotate_left
    ·intro c g
     go_simp
     try with_reducible rfl
    simp only [Act.put,getElem_toArray,getElem_cons_zero,getElem_cons_succ,setIfInBounds_toArray,set_cons_zero,set_cons_succ];refine wpAnyH_take (i:=6) (v:=?_) rfl (by kernel_rfl) (by kernel_rfl) (by kernel_rfl) (fun _ _ _ h=>h) (Or.inl ⟨by rfl,?_⟩) (by assumption) ?_
    rotate_left
    ·intro c g
     go_simp
     try with_reducible rfl
    simp only [Act.put,getElem_toArray,getElem_cons_zero,getElem_cons_succ,setIfInBounds_toArray,set_cons_zero,set_cons_succ];refine wpAnyH_take (i:=7) (v:=?_) rfl (by kernel_rfl) (by kernel_rfl) (by kernel_rfl) (fun _ _ _ h=>h) (Or.inl ⟨by rfl,?_⟩) (by assumption) ?_
    rotate_left
    ·intro c g
     go_simp
     try with_reducible rfl
    simp only [Act.put,getElem_toArray,getElem_cons_zero,getElem_cons_succ,setIfInBounds_toArray,set_cons_zero,set_cons_succ];refine wpAnyH_take (i:=8) (v:=?_) rfl (by kernel_rfl) (by kernel_rfl) (by kernel_rfl) (fun _ _ _ h=>h) (Or.inl ⟨by rfl,?_⟩) (by assumption) ?_
    rotate_left
    ·intro c g
     go_simp
     try with_reducible rfl
    simp only [Act.put,getElem_toArray,getElem_cons_zero,getElem_cons_succ,setIfInBounds_toArray,set_cons_zero,set_cons_succ];refine wpAnyH_take (i:=9) (v:=?_) rfl (by kernel_rfl) (by kernel_rfl) (by kernel_rfl) (fun _ _ _ h=>h) (Or.inl ⟨by rfl,?_⟩) (by assumption) ?_
    rotate_left
    ·intro c g
     go_simp
     try with_reducible rfl
    simp only [Act.put,getElem_toArray,getElem_cons_zero,getElem_cons_succ,setIfInBounds_toArray,set_cons_zero,set_cons_succ];refine wpAnyH_take (i:=10) (v:=?_) rfl (by kernel_rfl) (by kernel_rfl) (by kernel_rfl) (fun _ _ _ h=>h) (Or.inl ⟨by rfl,?_⟩) (by assumption) ?_
    rotate_left
    ·intro c g
     go_simp
     try with_reducible rfl
    simp only [Act.put,getElem_toArray,getElem_cons_zero,getElem_cons_succ,setIfInBounds_toArray,set_cons_zero,set_cons_succ];refine wpAnyH_take (i:=11) (v:=?_) rfl (by kernel_rfl) (by kernel_rfl) (by kernel_rfl) (fun _ _ _ h=>h) (Or.inl ⟨by rfl,?_⟩) (by assumption) ?_
    rotate_left
    ·intro c g
     go_simp
     try with_reducible rfl
    simp only [Act.put,getElem_toArray,getElem_cons_zero,getElem_cons_succ,setIfInBounds_toArray,set_cons_zero,set_cons_succ];refine wpAnyH_take (i:=12) (v:=?_) rfl (by kernel_rfl) (by kernel_rfl) (by kernel_rfl) (fun _ _ _ h=>h) (Or.inl ⟨by rfl,?_⟩) (by assumption) ?_
    rotate_left
    ·intro c g
     go_simp
     try with_reducible rfl
    simp only [Act.put,getElem_toArray,getElem_cons_zero,getElem_cons_succ,setIfInBounds_toArray,set_cons_zero,set_cons_succ];refine wpAnyH_ready (rs:=[3,13]) (by kernel_rfl) (by simp) ?_
    refine AllReadyH.cons rfl (fun t a=>?_) (AllReadyH.cons rfl (fun t a=>?_) AllReadyH.nil)
    ·go_simp
     refine a.out _ _ (by exact z) (fun C=>?_)
     clear a t;refine wpAnyH_ready (rs:=[13]) (by kernel_rfl) (by simp) ?_
     refine AllReadyH.cons rfl (fun t a=>?_) AllReadyH.nil
     go_simp
     refine a.out _ _ (by exact z) (fun C=>?_)
     clear a t;refine wpAnyH_take (i:=14) (v:=?_) rfl (by kernel_rfl) (by kernel_rfl) (by kernel_rfl) (fun _ _ _ h=>h) (Or.inl ⟨by rfl,?_⟩) (by assumption) ?_
     rotate_left
     ·intro c g
      go_simp
      try with_reducible rfl
     simp only [Act.put,getElem_toArray,getElem_cons_zero,getElem_cons_succ,setIfInBounds_toArray,set_cons_zero,set_cons_succ];refine wpAnyH_ready (rs:=[15]) (by kernel_rfl) (by simp) ?_
     refine AllReadyH.cons rfl (fun t a=>?_) AllReadyH.nil
     go_simp
     go_wp2_with((go_at_call 72;refine(ac.o _).mono ?_;rintro e w5 ⟨rfl,rfl⟩))
     refine a.out _ _ (by exact z) (fun C=>?_)
     clear a t;refine wpAnyH_take (i:=16) (v:=?_) rfl (by kernel_rfl) (by kernel_rfl) (by kernel_rfl) (fun _ _ _ h=>h) (Or.inl ⟨by rfl,?_⟩) (by assumption) ?_
     rotate_left
     ·intro c g
      go_simp
      try with_reducible rfl
     simp only [Act.put,getElem_toArray,getElem_cons_zero,getElem_cons_succ,setIfInBounds_toArray,set_cons_zero,set_cons_succ];refine wpAnyH_take (i:=17) (v:=?_) rfl (by kernel_rfl) (by kernel_rfl) (by kernel_rfl) (fun _ _ _ h=>h) (Or.inl ⟨by rfl,?_⟩) (by assumption) ?_
     rotate_left
     ·intro c g
      go_simp
      try with_reducible rfl
     simp only [Act.put,getElem_toArray,getElem_cons_zero,getElem_cons_succ,setIfInBounds_toArray,set_cons_zero,set_cons_succ];refine wpAnyH_take (i:=18) (v:=?_) rfl (by kernel_rfl) (by kernel_rfl) (by kernel_rfl) (fun _ _ _ h=>h) (Or.inl ⟨by rfl,?_⟩) (by assumption) ?_
     rotate_left
     ·intro c g
      go_simp
      try with_reducible rfl
     simp only [Act.put,getElem_toArray,getElem_cons_zero,getElem_cons_succ,setIfInBounds_toArray,set_cons_zero,set_cons_succ];refine wpAnyH_ready (rs:=[19]) (by kernel_rfl) (by simp) ?_
     refine AllReadyH.cons rfl (fun t a=>?_) AllReadyH.nil
     go_simp
     refine a.out _ _ (by exact ae.o) (fun C=>?_)
     clear a t;refine wpAnyH_done (by kernel_rfl) ?_ _
     go_wp2_with fail
     go_meet
     exact ZZ ⟨1,rfl⟩
    ·go_simp
     refine a.out _ _ (by exact z) (fun C=>?_)
     clear a t;refine wpAnyH_take (i:=14) (v:=?_) rfl (by kernel_rfl) (by kernel_rfl) (by kernel_rfl) (fun _ _ _ h=>h) (Or.inl ⟨by rfl,?_⟩) (by assumption) ?_
     rotate_left
     ·intro c g
      go_simp
      try with_reducible rfl
     simp only [Act.put,getElem_toArray,getElem_cons_zero,getElem_cons_succ,setIfInBounds_toArray,set_cons_zero,set_cons_succ];refine wpAnyH_ready (rs:=[3,15]) (by kernel_rfl) (by simp) ?_
     refine AllReadyH.cons rfl (fun t a=>?_) (AllReadyH.cons rfl (fun t a=>?_) AllReadyH.nil)
     ·go_simp
      refine a.out _ _ (by exact z) (fun C=>?_)
      clear a t;refine wpAnyH_ready (rs:=[15]) (by kernel_rfl) (by simp) ?_
      refine AllReadyH.cons rfl (fun t a=>?_) AllReadyH.nil
      go_simp
      go_wp2_with((go_at_call 72;refine(ac.o _).mono ?_;rintro e w5 ⟨rfl,rfl⟩))
      refine a.out _ _ (by exact z) (fun C=>?_)
      clear a t;refine wpAnyH_take (i:=16) (v:=?_) rfl (by kernel_rfl) (by kernel_rfl) (by kernel_rfl) (fun _ _ _ h=>h) (Or.inl ⟨by rfl,?_⟩) (by assumption) ?_
      rotate_left
      ·intro c g
       go_simp
       try with_reducible rfl
      simp only [Act.put,getElem_toArray,getElem_cons_zero,getElem_cons_succ,setIfInBounds_toArray,set_cons_zero,set_cons_succ];refine wpAnyH_take (i:=17) (v:=?_) rfl (by kernel_rfl) (by kernel_rfl) (by kernel_rfl) (fun _ _ _ h=>h) (Or.inl ⟨by rfl,?_⟩) (by assumption) ?_
      rotate_left
      ·intro c g
       go_simp
       try with_reducible rfl
      simp only [Act.put,getElem_toArray,getElem_cons_zero,getElem_cons_succ,setIfInBounds_toArray,set_cons_zero,set_cons_succ];refine wpAnyH_take (i:=18) (v:=?_) rfl (by kernel_rfl) (by kernel_rfl) (by kernel_rfl) (fun _ _ _ h=>h) (Or.inl ⟨by rfl,?_⟩) (by assumption) ?_
      rotate_left
      ·intro c g
       go_simp
       try with_reducible rfl
      simp only [Act.put,getElem_toArray,getElem_cons_zero,getElem_cons_succ,setIfInBounds_toArray,set_cons_zero,set_cons_succ];refine wpAnyH_ready (rs:=[19]) (by kernel_rfl) (by simp) ?_
      refine AllReadyH.cons rfl (fun t a=>?_) AllReadyH.nil
      go_simp
      refine a.out _ _ (by exact ae.o) (fun C=>?_)
      clear a t;refine wpAnyH_done (by kernel_rfl) ?_ _
      go_wp2_with fail
      go_meet
      exact ZZ ⟨1,rfl⟩
     ·go_simp
      go_wp2_with((go_at_call 72;refine(ac.o _).mono ?_;rintro e w5 ⟨rfl,rfl⟩))
      refine a.out _ _ (by exact z) (fun C=>?_)
      clear a t;refine wpAnyH_ready (rs:=[3]) (by kernel_rfl) (by simp) ?_
      refine AllReadyH.cons rfl (fun t a=>?_) AllReadyH.nil
      go_simp
      refine a.out _ _ (by exact z) (fun C=>?_)
      clear a t;refine wpAnyH_take (i:=16) (v:=?_) rfl (by kernel_rfl) (by kernel_rfl) (by kernel_rfl) (fun _ _ _ h=>h) (Or.inl ⟨by rfl,?_⟩) (by assumption) ?_
      rotate_left
      ·intro c g
       go_simp
       try with_reducible rfl
      simp only [Act.put,getElem_toArray,getElem_cons_zero,getElem_cons_succ,setIfInBounds_toArray,set_cons_zero,set_cons_succ];refine wpAnyH_take (i:=17) (v:=?_) rfl (by kernel_rfl) (by kernel_rfl) (by kernel_rfl) (fun _ _ _ h=>h) (Or.inl ⟨by rfl,?_⟩) (by assumption) ?_
      rotate_left
      ·intro c g
       go_simp
       try with_reducible rfl
      simp only [Act.put,getElem_toArray,getElem_cons_zero,getElem_cons_succ,setIfInBounds_toArray,set_cons_zero,set_cons_succ];refine wpAnyH_take (i:=18) (v:=?_) rfl (by kernel_rfl) (by kernel_rfl) (by kernel_rfl) (fun _ _ _ h=>h) (Or.inl ⟨by rfl,?_⟩) (by assumption) ?_
      rotate_left
      ·intro c g
       go_simp
       try with_reducible rfl
      simp only [Act.put,getElem_toArray,getElem_cons_zero,getElem_cons_succ,setIfInBounds_toArray,set_cons_zero,set_cons_succ];refine wpAnyH_ready (rs:=[19]) (by kernel_rfl) (by simp) ?_
      refine AllReadyH.cons rfl (fun t a=>?_) AllReadyH.nil
      go_simp
      refine a.out _ _ (by exact ae.o) (fun C=>?_)
      clear a t;refine wpAnyH_done (by kernel_rfl) ?_ _
      go_wp2_with fail
      go_meet
      exact ZZ ⟨1,rfl⟩
   case rest=>
    obtain⟨q7,Y⟩:=hcut.out;have I:Hid (Bk 117 wc P #[.slice ao X cap,.int .i64 (y:Int)]):=ZZ (by rw[Y];exact ap.o.set 1 _)
    have an:Hid (Bk 69 wc p (Zfm B DI (U:Int))):=ZZ (by rw[Y];exact aL.o.other P 1 _ aq.o)
    have V:=ZZ Y;have z:wc.cell? ⟨P,0,none⟩=some (.slice ao X cap):=(I.o.cell 0 rfl).1;have y0:wc.frozen? ⟨P,0,none⟩=false:=(I.o.cell 0 rfl).2;have g1:wc.cell? ⟨P,1,none⟩=some (.int .i64 (y:Int)):=(I.o.cell 1 rfl).1;clear Y hcut;obtain⟨W7,au⟩:∃ W7,W7=wc:=⟨_,rfl⟩;rw[<-au] at I an V z y0 g1 ⊢;clear au
    go_upto_region 8 with fail
    go_cut[] (fun wd=>Hid (∃ q,wd=(W7.setCell ⟨P,0,none⟩ (.slice ao y cap)).drewN q))
    case first=>
     go_region
     all_goals
      go_wp2_with fail
      go_meet
      exact ZZ ⟨1,rfl⟩
    case rest=>
     obtain⟨q8,R⟩:=hcut.out;have aE:Hid (Bk 117 wc P #[.slice ao y cap,.int .i64 (y:Int)]):=ZZ (by rw[R];exact I.o.set 0 _)
     have ar:Hid (Bk 69 wc p (Zfm B DI (U:Int))):=ZZ (by rw[R];exact an.o.other P 0 _ aq.o)
     have Q:=ZZ R;have E:wc.cell? ⟨P,1,none⟩=some (.int .i64 (y:Int)):=(aE.o.cell 1 rfl).1;have M:wc.cell? ⟨p,1,none⟩=some (.int .i64 (U:Int)):=(ar.o.cell 1 rfl).1;have h3:wc.frozen? ⟨p,1,none⟩=false:=(ar.o.cell 1 rfl).2;clear R hcut z y0 g1;obtain⟨W8,ak⟩:∃ W8,W8=wc:=⟨_,rfl⟩;rw[<-ak] at Q E M h3 ⊢;clear ak
     go_upto_region 9 with fail
     go_region
     all_goals
      go_wp2;go_roundw
      case rel=>
       refine⟨i+1,by go_num,by have:=ay.o;omega,_,ZZ (aG.o.keep (w':=(W8.setCell ⟨p,1,none⟩ (.int .i64 ((U:Int)+(y:Int)))).drew) (fun k _=>?_) ?_),ZZ ?_⟩
       ·rw[Q.o,V.o]
        rfl
       ·rw[Q.o,V.o]
        exact Nat.le_refl _
       ·rw[Q.o,V.o]
        exact⟨K.o.os,K.o.tape,K.o.output,K.o.size,K.o.block⟩
      case measure=>have:=ay.o;simp[intOf];omega
  ·obtain⟨J,hJ⟩:∃ J,J=i % keep.length:=⟨_,rfl⟩
   have a5:J<keep.length:=by rw[hJ];exact Nat.mod_lt _ (by omega)
   have br:(i:Int) % (keep.length:Int)=(J:Int):=by rw[hJ];omega
   have eA:keep.getD J 0=A:=by rw[HA.o,hJ];exact(if_neg ad).symm
   obtain⟨kb,ai,rfl,bu⟩:∃ kb ai,ka=some ⟨kb,ai,none⟩∧wr.cell? ⟨kb,ai+J,none⟩=some (.int .i64 A):=by
    obtain⟨a',c',al,_,_,_,_,h6⟩:=a6.o;simp only [Value.slice.injEq] at al;obtain⟨rfl,_,rfl⟩:=al;rcases h6 with h6 | ⟨kb,ai,rfl,h7⟩
    ·rw[h6] at ad
     simp at ad
    ·exact⟨kb,ai,rfl,by rw[h7 J a5,eA]⟩
   have bq:0<keep.length:=by omega
   have bx:(0:Int)<(keep.length:Int):=by omega
   clear eA hJ ad
   go_upto_region 7 with fail
   clear aR aJ k2
   go_cut[] (fun wd=>Hid (∃ q,wd=(wr.setCell ⟨P,1,none⟩ (.int .i64 (y:Int))).drewN q))
   case first=>
    refine wp_region_held_drew (S:=fun w'=>w'.cell? ⟨P,0,none⟩=some (.slice ao X cap)) (by kernel_rfl) (by exact z) (fun C=>?_)
    refine wpAnyH_take (i:=0) (v:=?_) rfl (by kernel_rfl) (by kernel_rfl) (by kernel_rfl) (fun _ _ _ h=>h) (Or.inl ⟨by rfl,?_⟩) (by assumption) ?_
    rotate_left
    ·intro c g
     go_simp
     try with_reducible rfl
    simp only [Act.put,getElem_toArray,getElem_cons_zero,setIfInBounds_toArray,set_cons_zero,set_cons_succ];refine wpAnyH_take (i:=1) (v:=?_) rfl (by kernel_rfl) (by kernel_rfl) (by kernel_rfl) (fun _ _ _ h=>h) (Or.inl ⟨by rfl,?_⟩) (by assumption) ?_
    rotate_left
    ·intro c g
     go_simp
     try with_reducible rfl
    simp only [Act.put,getElem_toArray,getElem_cons_zero,getElem_cons_succ,setIfInBounds_toArray,set_cons_zero,set_cons_succ];refine wpAnyH_take (i:=2) (v:=?_) rfl (by kernel_rfl) (by kernel_rfl) (by kernel_rfl) (fun _ _ _ h=>h) (Or.inl ⟨by rfl,?_⟩) (by assumption) ?_
    rotate_left
    ·intro c g
     go_simp
     try with_reducible rfl
    simp only [Act.put,getElem_toArray,getElem_cons_zero,getElem_cons_succ,setIfInBounds_toArray,set_cons_zero,set_cons_succ];refine wpAnyH_take (i:=4) (v:=?_) rfl (by kernel_rfl) (by kernel_rfl) (by kernel_rfl) (fun _ _ _ h=>h) (Or.inl ⟨by rfl,?_⟩) (by assumption) ?_
    rotate_left
    ·intro c g
     go_simp
     try with_reducible rfl
    simp only [Act.put,getElem_toArray,getElem_cons_zero,getElem_cons_succ,setIfInBounds_toArray,set_cons_zero,set_cons_succ];refine wpAnyH_take (i:=5) (v:=?_) rfl (by kernel_rfl) (by kernel_rfl) (by kernel_rfl) (fun _ _ _ h=>h) (Or.inl ⟨by rfl,?_⟩) (by assumption) ?_
    rotate_left
    ·intro c g
     go_simp
     try with_reducible rfl
    simp only [Act.put,getElem_toArray,getElem_cons_zero,getElem_cons_succ,setIfInBounds_toArray,set_cons_zero,set_cons_succ];refine wpAnyH_take (i:=6) (v:=?_) rfl (by kernel_rfl) (by kernel_rfl) (by kernel_rfl) (fun _ _ _ h=>h) (Or.inl ⟨by rfl,?_⟩) (by assumption) ?_
    rotate_left
    ·intro c g
     go_simp
     try with_reducible rfl
    simp only [Act.put,getElem_toArray,getElem_cons_zero,getElem_cons_succ,setIfInBounds_toArray,set_cons_zero,set_cons_succ];refine wpAnyH_take (i:=7) (v:=?_) rfl (by kernel_rfl) (by kernel_rfl) (by kernel_rfl) (fun _ _ _ h=>h) (Or.inl ⟨by rfl,?_⟩) (by assumption) ?_
    rotate_left
    ·intro c g
     go_simp
     try with_reducible rfl
    simp only [Act.put,getElem_toArray,getElem_cons_zero,getElem_cons_succ,setIfInBounds_toArray,set_cons_zero,set_cons_succ];refine wpAnyH_take (i:=8) (v:=?_) rfl (by kernel_rfl) (by kernel_rfl) (by kernel_rfl) (fun _ _ _ h=>h) (Or.inl ⟨by rfl,?_⟩) (by assumption) ?_
    rotate_left
    ·intro c g
     go_simp
     try with_reducible rfl
    simp only [Act.put,getElem_toArray,getElem_cons_zero,getElem_cons_succ,setIfInBounds_toArray,set_cons_zero,set_cons_succ];refine wpAnyH_take (i:=9) (v:=?_) rfl (by kernel_rfl) (by kernel_rfl) (by kernel_rfl) (fun _ _ _ h=>h) (Or.inl ⟨by rfl,?_⟩) (by assumption) ?_
    rotate_left
    ·intro c g
     go_simp
     try with_reducible rfl
    simp only [Act.put,getElem_toArray,getElem_cons_zero,getElem_cons_succ,setIfInBounds_toArray,set_cons_zero,set_cons_succ];refine wpAnyH_take (i:=10) (v:=?_) rfl (by kernel_rfl) (by kernel_rfl) (by kernel_rfl) (fun _ _ _ h=>h) (Or.inl ⟨by rfl,?_⟩) (by assumption) ?_
    rotate_left
    ·intro c g
     go_simp
     try with_reducible rfl
    simp only [Act.put,getElem_toArray,getElem_cons_zero,getElem_cons_succ,setIfInBounds_toArray,set_cons_zero,set_cons_succ];refine wpAnyH_take (i:=11) (v:=?_) rfl (by kernel_rfl) (by kernel_rfl) (by kernel_rfl) (fun _ _ _ h=>h) (Or.inl ⟨by rfl,?_⟩) (by assumption) ?_
    rotate_left
    ·intro c g
     go_simp
     try with_reducible rfl
    simp only [Act.put,getElem_toArray,getElem_cons_zero,getElem_cons_succ,setIfInBounds_toArray,set_cons_zero,set_cons_succ];refine wpAnyH_take (i:=12) (v:=?_) rfl (by kernel_rfl) (by kernel_rfl) (by kernel_rfl) (fun _ _ _ h=>h) (Or.inl ⟨by rfl,?_⟩) (by assumption) ?_
    rotate_left
    ·intro c g
     go_simp
     try with_reducible rfl
    simp only [Act.put,getElem_toArray,getElem_cons_zero,getElem_cons_succ,setIfInBounds_toArray,set_cons_zero,set_cons_succ];refine wpAnyH_ready (rs:=[3,13]) (by kernel_rfl) (by simp) ?_
    refine AllReadyH.cons rfl (fun t a=>?_) (AllReadyH.cons rfl (fun t a=>?_) AllReadyH.nil)
    ·go_simp
     refine a.out _ _ (by exact z) (fun C=>?_)
     clear a t;refine wpAnyH_ready (rs:=[13]) (by kernel_rfl) (by simp) ?_
     refine AllReadyH.cons rfl (fun t a=>?_) AllReadyH.nil
     go_simp
     refine a.out _ _ (by exact z) (fun C=>?_)
     clear a t;refine wpAnyH_take (i:=14) (v:=?_) rfl (by kernel_rfl) (by kernel_rfl) (by kernel_rfl) (fun _ _ _ h=>h) (Or.inl ⟨by rfl,?_⟩) (by assumption) ?_
     rotate_left
     ·intro c g
      go_simp
      try with_reducible rfl
     simp only [Act.put,getElem_toArray,getElem_cons_zero,getElem_cons_succ,setIfInBounds_toArray,set_cons_zero,set_cons_succ];refine wpAnyH_ready (rs:=[15]) (by kernel_rfl) (by simp) ?_
     refine AllReadyH.cons rfl (fun t a=>?_) AllReadyH.nil
     go_simp
     go_wp2_with((go_at_call 72;refine(ac.o _).mono ?_;rintro e w5 ⟨rfl,rfl⟩))
     refine a.out _ _ (by exact z) (fun C=>?_)
     clear a t;refine wpAnyH_take (i:=16) (v:=?_) rfl (by kernel_rfl) (by kernel_rfl) (by kernel_rfl) (fun _ _ _ h=>h) (Or.inl ⟨by rfl,?_⟩) (by assumption) ?_
     rotate_left
     ·intro c g
      go_simp
      try with_reducible rfl
     simp only [Act.put,getElem_toArray,getElem_cons_zero,getElem_cons_succ,setIfInBounds_toArray,set_cons_zero,set_cons_succ];refine wpAnyH_take (i:=17) (v:=?_) rfl (by kernel_rfl) (by kernel_rfl) (by kernel_rfl) (fun _ _ _ h=>h) (Or.inl ⟨by rfl,?_⟩) (by assumption) ?_
     rotate_left
     ·intro c g
      go_simp
      try with_reducible rfl
     simp only [Act.put,getElem_toArray,getElem_cons_zero,getElem_cons_succ,setIfInBounds_toArray,set_cons_zero,set_cons_succ];refine wpAnyH_take (i:=18) (v:=?_) rfl (by kernel_rfl) (by kernel_rfl) (by kernel_rfl) (fun _ _ _ h=>h) (Or.inl ⟨by rfl,?_⟩) (by assumption) ?_
     rotate_left
     ·intro c g
      go_simp
      try with_reducible rfl
     simp only [Act.put,getElem_toArray,getElem_cons_zero,getElem_cons_succ,setIfInBounds_toArray,set_cons_zero,set_cons_succ];refine wpAnyH_ready (rs:=[19]) (by kernel_rfl) (by simp) ?_
     refine AllReadyH.cons rfl (fun t a=>?_) AllReadyH.nil
     go_simp
     refine a.out _ _ (by exact ae.o) (fun C=>?_)
     clear a t;refine wpAnyH_done (by kernel_rfl) ?_ _
     go_wp2_with fail
     go_meet
     exact ZZ ⟨1,rfl⟩
    ·go_simp
     refine a.out _ _ (by exact z) (fun C=>?_)
     clear a t;refine wpAnyH_take (i:=14) (v:=?_) rfl (by kernel_rfl) (by kernel_rfl) (by kernel_rfl) (fun _ _ _ h=>h) (Or.inl ⟨by rfl,?_⟩) (by assumption) ?_
     rotate_left
     ·intro c g
      go_simp
      try with_reducible rfl
     simp only [Act.put,getElem_toArray,getElem_cons_zero,getElem_cons_succ,setIfInBounds_toArray,set_cons_zero,set_cons_succ];refine wpAnyH_ready (rs:=[3,15]) (by kernel_rfl) (by simp) ?_
     refine AllReadyH.cons rfl (fun t a=>?_) (AllReadyH.cons rfl (fun t a=>?_) AllReadyH.nil)
     ·go_simp
      refine a.out _ _ (by exact z) (fun C=>?_)
      clear a t;refine wpAnyH_ready (rs:=[15]) (by kernel_rfl) (by simp) ?_
      refine AllReadyH.cons rfl (fun t a=>?_) AllReadyH.nil
      go_simp
      go_wp2_with((go_at_call 72;refine(ac.o _).mono ?_;rintro e w5 ⟨rfl,rfl⟩))
      refine a.out _ _ (by exact z) (fun C=>?_)
      clear a t;refine wpAnyH_take (i:=16) (v:=?_) rfl (by kernel_rfl) (by kernel_rfl) (by kernel_rfl) (fun _ _ _ h=>h) (Or.inl ⟨by rfl,?_⟩) (by assumption) ?_
      rotate_left
      ·intro c g
       go_simp
       try with_reducible rfl
      simp only [Act.put,getElem_toArray,getElem_cons_zero,getElem_cons_succ,setIfInBounds_toArray,set_cons_zero,set_cons_succ];refine wpAnyH_take (i:=17) (v:=?_) rfl (by kernel_rfl) (by kernel_rfl) (by kernel_rfl) (fun _ _ _ h=>h) (Or.inl ⟨by rfl,?_⟩) (by assumption) ?_
      rotate_left
      ·intro c g
       go_simp
       try with_reducible rfl
      simp only [Act.put,getElem_toArray,getElem_cons_zero,getElem_cons_succ,setIfInBounds_toArray,set_cons_zero,set_cons_succ];refine wpAnyH_take (i:=18) (v:=?_) rfl (by kernel_rfl) (by kernel_rfl) (by kernel_rfl) (fun _ _ _ h=>h) (Or.inl ⟨by rfl,?_⟩) (by assumption) ?_
      rotate_left
      ·intro c g
       go_simp
       try with_reducible rfl
      simp only [Act.put,getElem_toArray,getElem_cons_zero,getElem_cons_succ,setIfInBounds_toArray,set_cons_zero,set_cons_succ];refine wpAnyH_ready (rs:=[19]) (by kernel_rfl) (by simp) ?_
      refine AllReadyH.cons rfl (fun t a=>?_) AllReadyH.nil
      go_simp
      refine a.out _ _ (by exact ae.o) (fun C=>?_)
      clear a t;refine wpAnyH_done (by kernel_rfl) ?_ _
      go_wp2_with fail
      go_meet
      exact ZZ ⟨1,rfl⟩
     ·go_simp
      go_wp2_with((go_at_call 72;refine(ac.o _).mono ?_;rintro e w5 ⟨rfl,rfl⟩))
      refine a.out _ _ (by exact z) (fun C=>?_)
      clear a t;refine wpAnyH_ready (rs:=[3]) (by kernel_rfl) (by simp) ?_
      refine AllReadyH.cons rfl (fun t a=>?_) AllReadyH.nil
      go_simp
      refine a.out _ _ (by exact z) (fun C=>?_)
      clear a t;refine wpAnyH_take (i:=16) (v:=?_) rfl (by kernel_rfl) (by kernel_rfl) (by kernel_rfl) (fun _ _ _ h=>h) (Or.inl ⟨by rfl,?_⟩) (by assumption) ?_
      rotate_left
      ·intro c g
       go_simp
       try with_reducible rfl
      simp only [Act.put,getElem_toArray,getElem_cons_zero,getElem_cons_succ,setIfInBounds_toArray,set_cons_zero,set_cons_succ];refine wpAnyH_take (i:=17) (v:=?_) rfl (by kernel_rfl) (by kernel_rfl) (by kernel_rfl) (fun _ _ _ h=>h) (Or.inl ⟨by rfl,?_⟩) (by assumption) ?_
      rotate_left
      ·intro c g
       go_simp
       try with_reducible rfl
      simp only [Act.put,getElem_toArray,getElem_cons_zero,getElem_cons_succ,setIfInBounds_toArray,set_cons_zero,set_cons_succ];refine wpAnyH_take (i:=18) (v:=?_) rfl (by kernel_rfl) (by kernel_rfl) (by kernel_rfl) (fun _ _ _ h=>h) (Or.inl ⟨by rfl,?_⟩) (by assumption) ?_
      rotate_left
      ·intro c g
       go_simp
       try with_reducible rfl
      simp only [Act.put,getElem_toArray,getElem_cons_zero,getElem_cons_succ,setIfInBounds_toArray,set_cons_zero,set_cons_succ];refine wpAnyH_ready (rs:=[19]) (by kernel_rfl) (by simp) ?_
      refine AllReadyH.cons rfl (fun t a=>?_) AllReadyH.nil
      go_simp
      refine a.out _ _ (by exact ae.o) (fun C=>?_)
      clear a t;refine wpAnyH_done (by kernel_rfl) ?_ _
      go_wp2_with fail
      go_meet
      exact ZZ ⟨1,rfl⟩
   case rest=>
    obtain⟨q7,Y⟩:=hcut.out;have I:Hid (Bk 117 wc P #[.slice ao X cap,.int .i64 (y:Int)]):=ZZ (by rw[Y];exact ap.o.set 1 _)
    have an:Hid (Bk 69 wc p (Zfm B DI (U:Int))):=ZZ (by rw[Y];exact aL.o.other P 1 _ aq.o)
    have V:=ZZ Y;have z:wc.cell? ⟨P,0,none⟩=some (.slice ao X cap):=(I.o.cell 0 rfl).1;have y0:wc.frozen? ⟨P,0,none⟩=false:=(I.o.cell 0 rfl).2;have g1:wc.cell? ⟨P,1,none⟩=some (.int .i64 (y:Int)):=(I.o.cell 1 rfl).1;clear Y hcut;obtain⟨W7,au⟩:∃ W7,W7=wc:=⟨_,rfl⟩;rw[<-au] at I an V z y0 g1 ⊢;clear au
    go_upto_region 8 with fail
    go_cut[] (fun wd=>Hid (∃ q,wd=(W7.setCell ⟨P,0,none⟩ (.slice ao y cap)).drewN q))
    case first=>
     go_region
     all_goals
      go_wp2_with fail
      go_meet
      exact ZZ ⟨1,rfl⟩
    case rest=>
     obtain⟨q8,R⟩:=hcut.out;have aE:Hid (Bk 117 wc P #[.slice ao y cap,.int .i64 (y:Int)]):=ZZ (by rw[R];exact I.o.set 0 _)
     have ar:Hid (Bk 69 wc p (Zfm B DI (U:Int))):=ZZ (by rw[R];exact an.o.other P 0 _ aq.o)
     have Q:=ZZ R;have E:wc.cell? ⟨P,1,none⟩=some (.int .i64 (y:Int)):=(aE.o.cell 1 rfl).1;have M:wc.cell? ⟨p,1,none⟩=some (.int .i64 (U:Int)):=(ar.o.cell 1 rfl).1;have h3:wc.frozen? ⟨p,1,none⟩=false:=(ar.o.cell 1 rfl).2;clear R hcut z y0 g1;obtain⟨W8,ak⟩:∃ W8,W8=wc:=⟨_,rfl⟩;rw[<-ak] at Q E M h3 ⊢;clear ak
     go_upto_region 9 with fail
     go_region
     all_goals
      go_wp2;go_roundw
      case rel=>
       refine⟨i+1,by go_num,by have:=ay.o;omega,_,ZZ (aG.o.keep (w':=(W8.setCell ⟨p,1,none⟩ (.int .i64 ((U:Int)+(y:Int)))).drew) (fun k _=>?_) ?_),ZZ ?_⟩
       ·rw[Q.o,V.o]
        rfl
       ·rw[Q.o,V.o]
        exact Nat.le_refl _
       ·rw[Q.o,V.o]
        exact⟨K.o.os,K.o.tape,K.o.output,K.o.size,K.o.block⟩
      case measure=>have:=ay.o;simp[intOf];omega
theorem Ztt (names:Int) (l:Value) (keep:List Int) (w:World) (h:Dsk F w p d N T) (C:N<=1000000) (J:T<=1000000000) (y:RdI w l keep) (t:keep=[]∨∀ k,l.ownBlock=some k->¬ F k) (U:keep.length<=1000000000):
 Calls prog 12 #[ptr p,.int .i64 names,l] w fun e w'=>e=.returned (.tuple #[])∧Dsk F w' p (Zl d names keep) N T∧Qj F w w':=by
 obtain⟨L,h,b,a,u,z⟩:=h;have I:=ZZ b;have m:=ZZ a;have H:=ZZ (And.intro u z);have E:=ZZ y;have B:=ZZ t;have D:=ZZ (Zhw names w h b a C);obtain⟨K,f⟩:∃ K,K=Zx names d.waits.length:=⟨_,rfl⟩;have c:=ZZ f;rw[<-f] at D;have M:Hid (OkD { d with kept:=Zy d K,waits:=[] }):=ZZ (Zgx (fs:=d.files) (b.dirs K) b.keep)
 have Q:Hid (Bnd { d with kept:=Zy d K,waits:=[] } N T):=ZZ ⟨a.files,by have j:=Zbn d K;have V:=a.names;show(Zy d K).length+0<=N;omega,a.bytes⟩
 have X:Hid (∀ q ∈ Zy d K,q.2<d.files.length):=ZZ (fun q Z=>((b.dirs K).may q Z).2)
 obtain⟨ka,kc,rfl,-⟩:=y;clear h b a u z t f
 go_enter func12,ntmps12
 go_wp2_with fail
 refine D.o.mono ?_;rintro e W ⟨rfl,v,i⟩;have aa:=ZZ (ZkJ _ keep W v rfl M.o Q.o C J (E.o.onlyE i B.o) B.o U);have R:=ZZ i;clear v i
 go_wp2_with fail
 refine aa.o.mono ?_;rintro e W2 ⟨rfl,⟨S,g⟩,A⟩;have n:=ZZ g;have Y:=ZZ (R.o.trans A (fun _ _ O=>O))
 obtain⟨⟨-,-,-,-,-,c5⟩,-,-,-,f5⟩:=g.cells;clear g A;go_wp2;go_end0;refine⟨rfl,⟨S,?_,I.o.crash names keep,⟨?_,?_,?_⟩,H.o.1,⟨by show(-9223372036854775808:Int)<=-1;omega,by show(-1:Int)<=9223372036854775807;omega⟩⟩,Y.o.setCell 5 (fun _=>n.o.fh) _⟩
 ·have j:=n.o.setHead 5 (.int .i64 (-1)) (d':=Zl d names keep) (u':=(Y1 (Qu keep (Zy d K) 0 d.files) (Zy d K):Nat)) (by rw[c.o];exact⟨rfl,rfl,rfl⟩) rfl
  have P:Zj (Zl d names keep)=Y1 (Qu keep (Zy d K) 0 d.files) (Zy d K):=by rw[c.o];rfl
  rw[P];exact j
 ·have:=m.o.files
  show(Qu keep _ 0 d.files).length<=N;rw[Jj];exact this
 ·have j:=Zbn d (Zx names d.waits.length)
  have V:=m.o.names;show(Zy d (Zx names d.waits.length)).length+0<=N;omega
 ·intro x G
  refine ZcH keep (Zy d K) 0 d.files m.o.bytes X.o x ?_;rw[c.o];exact G
theorem Ztu (v:Value) (l:List UInt8) (w:World) (q:Rd w v l) (O:l.length<=70368744177664):
 Calls prog 183 #[v] w fun e w'=>∃ v',e=.returned v'∧Own w' w.heap.size v' l∧Below w.heap.size w w':=by
 obtain⟨d,j,H,n,C⟩:=info_parts Zkt;have F:=ZZ q;obtain⟨ao,cap,rfl,N,L,y,z⟩:=q;have G:=ZZ z;have g:=ZZ y;clear z y
 go_enter func183,ntmps183
 go_wp2_with(at_make;refine wpList_make_own _ rfl _ _ 53 rfl w.heap.size 5 d (.int .u8 0) 1 underlying53 j H n _ _ _ (l.length+10) rfl rfl (by omega) (by rw[C];omega) (by unfold maxLen;omega) zL ?_)
 intro D i b;have a:Below w.heap.size w D:=(Below.refl _ _).grown b zL (fun k c=>by cases c)
 obtain⟨J,K,u,_,_,_,p⟩:=F.o.below a zL;simp only [Value.slice.injEq] at u;obtain⟨rfl,_,rfl⟩:=u;have E:=ZZ p;have f:=ZZ a;have M:=ZZ b;clear p a b G
 go_wp2_with(at_builtin;refine wpList_append_fits_any _ rfl _ _ 53 rfl w.heap.size 5 d 1 underlying53 j n w.heap.size 0 (l.length+10) [] rfl i ao l.length cap (Lib.byteCells l) rfl (by rw[Yi,Nat.mul_one]) (fun e=>⟨by have:=g.o e;omega,g.o e⟩) (Rd.cells E.o) (ZaD l) (by omega) ?_)
 intro I t x;have m:Below w.heap.size w I:=f.o.grown x (by have:=f.o.size;omega) (fun k c=>by simp at c;omega)
 have B:=ZZ m;have A:=ZZ t;clear m x t i;go_wp2;go_ret;exact⟨_,rfl,Own.mk' A.o (by simp) (by simp),B.o⟩
theorem ZyX (y:Nat):bits .or .u8 ((y:Int) % 256) 128=(y:Int) % 128+128:=by
 rw[Lib.u8_or128_any _ (by omega) (by omega)]
 omega
theorem Own.snoc (l b:List UInt8) (a:Nat) (c:a<256) {n:Nat} {x:Int} (h:w.ownsRow B 5 1 v n (Lib.byteCells (l++b)++[Value.int .u8 x])) (e:n=l.length+b.length+1) (d:x=(a:Int)):Own w B v (l++(b++[a.toUInt8])):=by
 subst d;refine Own.mk' h (by rw[e];simp;omega) ?_
 rw[<-List.append_assoc,Lib.byteCells_snoc _ c]
theorem Zeu (v:Value) (l:List UInt8) (u:Nat) (w:World) (G:Rd w v l) (Q:l.length<=70368744177664) (b:u<18446744073709551616):
 Calls prog 184 #[v,.int .u64 (u:Int)] w fun e w'=>∃ v',e=.returned v'∧Own w' w.heap.size v' (l++Lib.uvarint u)∧Below w.heap.size w w':=by
 obtain⟨A,C,H,E,B⟩:=info_parts Zkt;have W:=Lib.uvarint_length64 b;have F:=ZZ (Ztu v l w G Q);have X:=ZZ b;clear G b
 go_enter func184,ntmps184
 go_wp2_with fail
 refine F.o.mono ?_;rintro e U ⟨T,rfl,I,J⟩;have K:=ZZ I;have M:=ZZ J;clear I J F;go_wp2
 go_loopw[1,5] (fun z P wr=>∃ (y:Nat) (c:List UInt8),z=.int .u64 (y:Int)∧Hid (y<=u∧Lib.uvarint u=c++Lib.uvarint y)∧Hid (Own wr w.heap.size P (l++c))∧Hid (Below w.heap.size w wr))
  (fun z _ _=>(intOf z).toNat)
 case atStart=>exact⟨u,[],rfl,⟨Nat.le_refl _,rfl⟩,by rw[List.append_nil];exact K.o,M.o⟩
 case round=>
  obtain⟨y,c,rfl,i,m,t⟩:=hrel
  have V:c.length+(Lib.uvarint y).length<=10:=by
   have N:=congrArg List.length i.out.2;rw[List.length_append] at N;omega
  have R:=Lib.uvarint_pos y;have Y:=t.out.size;by_cases O:128<=y
  ·have S:=ZyX y
   go_wp2_with(at_builtin;refine wpList_append_own _ rfl _ _ 53 rfl w.heap.size 5 A (.int .u8 0) 1 1 underlying53 C H E B rfl (by decide) _ _ _ rfl (World.ownsRow.alloc m.out _) ⟨wr.heap.size,0,none⟩ 1 1 [Value.int .u8 ((y % 128+128:Nat):Int)] rfl rfl ?c1 ?c2 ?c3 ?c4 ?c5 ?_)
   case c1=>
    intro j u a
    match j,a with
    | 0,a=>simp at a;subst a;simp[Addr.add]
   case c2=>intro u b;simp at b;subst b;rfl
   case c3=>unfold maxLen;simp;omega
   case c4=>simp;omega
   case c5=>simp;omega
   intro v' q d f _;have g:Below w.heap.size w q:=(t.out.alloc (by omega) _).grown f (by simp;omega) (fun k x=>(World.ownsRow.lt m.out k x).1)
   have p:=ZZ (Own.snoc l c (y % 128+128) (by omega) d (by simp) (by omega))
   have n:=ZZ g;clear d g f;go_wp2;go_roundw
   case rel=>exact⟨y / 128,c++[(y % 128+128).toUInt8],by go_num,⟨by have:=i.out.1;omega,by rw[i.out.2,Lib.uvarint_big O];simp⟩,p,n⟩
   case measure=>simp[intOf];omega
  ·have D:Lib.uvarint y=[y.toUInt8]:=Lib.uvarint_small (by omega)
   have L:=ZZ D;clear D
   go_wp2_with(at_builtin;refine wpList_append_own _ rfl _ _ 53 rfl w.heap.size 5 A (.int .u8 0) 1 1 underlying53 C H E B rfl (by decide) _ _ _ rfl (World.ownsRow.alloc m.out _) ⟨wr.heap.size,0,none⟩ 1 1 [Value.int .u8 (y:Int)] rfl rfl ?c1 ?c2 ?c3 ?c4 ?c5 ?_)
   case c1=>
    intro j u a
    match j,a with
    | 0,a=>simp at a;subst a;simp[Addr.add]
   case c2=>intro u b;simp at b;subst b;rfl
   case c3=>unfold maxLen;simp;omega
   case c4=>simp;omega
   case c5=>simp;omega
   intro v' q d f _;have g:Below w.heap.size w q:=(t.out.alloc (by omega) _).grown f (by simp;omega) (fun k x=>(World.ownsRow.lt m.out k x).1)
   have p:=ZZ (Own.snoc l c y (by omega) d (by simp) rfl)
   have n:=ZZ g;clear d g f;go_wp2;go_ret;refine⟨v',rfl,?_,n.o⟩;rw[i.out.2,L.o];exact p.o
def Zrg (l:List UInt8) (n:Int):List UInt8:=if 0<=n∧n<4611686018427387904 then l++Lib.uvarint n.toNat else l
theorem ZbA (v:Value) (l:List UInt8) (n:Int) (w:World) (d:Rd w v l) (m:l.length<=70368744177664):
 Calls prog 132 #[v,.int .i64 n] w fun e w'=>∃ v',e=.returned v'∧Own w' w.heap.size v' (Zrg l n)∧Below w.heap.size w w':=by
 by_cases h:0<=n∧n<4611686018427387904
 ·obtain⟨j,p⟩:=h
  have i:Hid (Zrg l n=l++Lib.uvarint n.toNat):=if_pos ⟨j,p⟩;have a:=ZZ (Zeu v l n.toNat w d m (by omega))
  have k:((n.toNat:Nat):Int)=n:=Int.toNat_of_nonneg j;rw[k] at a;clear k d
  go_enter func132,ntmps132
  go_wp2_with fail
  refine a.o.mono ?_;rintro e w' ⟨v',rfl,c,b⟩;have g:=ZZ c;have f:=ZZ b;clear c b a;go_wp2;go_ret;exact⟨v',rfl,by rw[i.o];exact g.o,f.o⟩
 ·have i:Hid (Zrg l n=l):=if_neg h
  have a:=ZZ (Ztu v l w d m);clear d;by_cases j:n<0
  all_goals
   go_enter func132,ntmps132
   go_wp2_with fail
   refine a.o.mono ?_;rintro e w' ⟨v',rfl,c,b⟩;have g:=ZZ c;have f:=ZZ b;clear c b a;go_wp2;go_ret;exact⟨v',rfl,by rw[i.o];exact g.o,f.o⟩
theorem Jk (v:Value) (l:List UInt8) (n:Int) (w:World) (f:Rd w v l) (m:l.length<=70368744177664) (a:-9223372036854775808<=n) (b:n<=9223372036854775807):
 Calls prog 142 #[v,.int .i64 n] w fun e w'=>∃ v',e=.returned v'∧Own w' w.heap.size v' (l++Lib.uvarint (Lib.zigzag n))∧Below w.heap.size w w':=by
 have g:=ZZ (Zeu v l (Lib.zigzag n) w f m (Lib.zigzag_lt a b));have d:=ZZ (Zxd n w a b);generalize Lib.zigzag n=z at *;clear f a b
 go_enter func142,ntmps142
 go_wp2_with fail
 refine d.o.mono ?_;rintro e w' ⟨rfl,rfl⟩
 go_wp2_with fail
 refine g.o.mono ?_;rintro e w' ⟨v',rfl,i,c⟩;have k:=ZZ i;have j:=ZZ c;clear i c g d;go_wp2;go_ret;exact⟨v',rfl,k.o,j.o⟩
def Cnt (l:List UInt8) (c:Nat):Prop:=
 (c=0∧∀ j,j<10->j<l.length->128<=(l.getD j 0).toNat)∨
 (1<=c∧c<=10∧c<=l.length∧(∀ j,j+1<c->128<=(l.getD j 0).toNat)∧(l.getD (c-1) 0).toNat<128)
theorem Ztv (v:Value) (l:List UInt8) (w:World) (t:Rd w v l):
 Calls prog 222 #[v] w fun e w'=>∃ c:Nat,e=.returned (.int .i64 (c:Int))∧Cnt l c∧w'=w:=by
 obtain⟨ao,cap,rfl,H,x,z,f⟩:=t;clear z;have C:(l.length:Int)<=9223372036854775807:=by unfold maxLen at x;omega
 by_cases F:(l.length:Int)<=10
 all_goals
  go_enter func222,ntmps222
  go_wp2
  go_loop [7] (fun i=>∃ k:Nat,i=.int .i64 k∧k<=10∧k<=l.length∧Hid (∀ j,j<k->128<=(l.getD j 0).toNat)) (fun i=>10-(intOf i).toNat)
  case atStart=>exact⟨0,rfl,by omega,by omega,fun j p=>by omega⟩
  case round=>
   obtain⟨k,rfl,A,D,a⟩:=hrel;by_cases n:k<10∧k<l.length
   ·obtain⟨n,g⟩:=n
    rcases f with f | ⟨b,B,rfl,m⟩
    ·subst f;simp at g
    ·have u:=m k g
     clear m;obtain⟨y,d⟩:∃ y,y=(l.getD k 0).toNat:=⟨_,rfl⟩;rw[<-d] at u;have q:Hid (y=(l.getD k 0).toNat):=d;clear d;by_cases I:(y:Int)<128
     ·go_wp2
      go_ret;refine⟨k+1,ZbT (by omega),.inr ⟨by omega,by omega,by omega,fun j p=>a.out j (by omega),?_⟩,rfl⟩
      rw[Nat.add_sub_cancel,<-q.o];omega
     ·go_wp2
      go_round
      case rel=>
       refine⟨k+1,by go_num,by omega,by omega,fun j p=>?_⟩
       by_cases e:j=k
       ·rw[e,<-q.o];omega
       ·exact a.out j (by omega)
      case measure=>simp[intOf];omega
   ·go_wp2
    go_ret;exact⟨0,rfl,.inl ⟨rfl,fun j G E=>a.out j (by omega)⟩,rfl⟩
theorem Zrh (h:Cnt l 0):Qd l=(0,0):=by
 rcases h with ⟨_,h⟩ | h
 ·unfold Qd
  rw[Zkr 10 l h]
 ·omega
theorem ZkK (h:Cnt l (c+1)):c<10∧c<l.length∧(l.getD c 0).toNat<128∧
 dec 10 l=if 0<c∧(l.getD c 0).toNat=0 then none else some (val (l.take (c+1)),c+1):=by
 rcases h with h | ⟨e,f,g,d,b⟩
 ·omega
 ·have a:(l.getD c 0).toNat<128:=by simpa using b
  exact⟨by omega,by omega,a,ZsP c 10 l (by omega) (by omega) (fun j i=>d j (by omega)) a⟩
theorem ZdK (l:List UInt8) (k:Nat) (h:k<=l.length):val (l.take k)<128 ^ k:=by
 have:=ZwS (l.take k)
 rwa [length_take,Nat.min_eq_left h] at this
theorem Ztw (h:Cnt l 10) (k:(l.getD 9 0).toNat≠1):Qd l=(0,0):=by
 obtain⟨j,f,i,g⟩:=ZkK h;unfold Qd;rw[g];by_cases b:(l.getD 9 0).toNat=0
 ·rw[if_pos ⟨by omega,b⟩]
 ·rw[if_neg (fun e=>b e.2)]
  have a:=Zec l 9 f;have d:(l.getD 9 0).toNat % 128=(l.getD 9 0).toNat:=Nat.mod_eq_of_lt i;rw[d] at a;have c:128 ^ 9=9223372036854775808:=by decide
  rw[c] at a;have:¬ val (l.take (9+1))<18446744073709551616:=by omega
  simp only [this,if_false]
theorem Zog (h:Cnt l (c+1)) (d:0<c) (a:(l.getD c 0).toNat=0):Qd l=(0,0):=by
 obtain⟨e,f,g,b⟩:=ZkK h;unfold Qd;rw[b,if_pos ⟨d,a⟩]
theorem Zri (h:Cnt l (c+1)) (i:c=9->(l.getD c 0).toNat=1) (k:0<c->(l.getD c 0).toNat≠0):
 Qd l=(val (l.take (c+1)),c+1)∧val (l.take (c+1))<18446744073709551616:=by
 obtain⟨n,g,p,j⟩:=ZkK h
 have d:val (l.take (c+1))<18446744073709551616:=by
  by_cases e:c=9
  ·subst e
   have a:=Zec l 9 g;have f:=ZdK l 9 (by omega)
   rw[i rfl] at a;have b:128 ^ 9=9223372036854775808:=by decide
   rw[b] at a f;omega
  ·have a:=ZdK l (c+1) (by omega)
   have m:128 ^ (c+1)<=128 ^ 9:=Nat.pow_le_pow_right (by decide) (by omega)
   have b:128 ^ 9=9223372036854775808:=by decide
   omega
 refine⟨?_,d⟩;unfold Qd;rw[j,if_neg (fun e=>k e.1 e.2)]
 simp only [d,if_true]
theorem ZwV (k y x:Nat) (c:k<64) (d:y<2 ^ k) (f:x*2 ^ k<18446744073709551616):
 bits .or .u64 (y:Int) (IntKind.u64.wrap ((x:Int)*2 ^ k))=((y+x*2 ^ k:Nat):Int):=by
 have e:((x:Int)*2 ^ k)=((x*2 ^ k:Nat):Int):=by simp
 have a:((2 ^ k:Nat):Int)=(2:Int) ^ k:=by simp
 have b:(2:Nat) ^ k<=2 ^ 64:=Nat.pow_le_pow_right (by decide) (by omega)
 rw[e,wraps_u64 _ (by omega) (by omega),bits_join_low .u64 64 (by decide) wraps_u64 k (y:Int) ((x*2 ^ k:Nat):Int) (by omega) (by rw[<-a];omega) (by omega) (by omega) (by rw[<-a];simp) (by omega)]
 omega
theorem Zxt (l:List UInt8) (k:Nat) (d:k<l.length) (j:k<10) (g:k=9->(l.getD k 0).toNat % 128<=1):
 bits .or .u64 ((val (l.take k):Nat):Int) (IntKind.u64.wrap (((l.getD k 0).toNat:Int) % 128*2 ^ (7*k)))=((val (l.take (k+1)):Nat):Int):=by
 have a:=ZdK l k (by omega)
 rw[Zec l k d,<-pow7];rw[<-pow7] at a;have e:(((l.getD k 0).toNat:Int) % 128)=(((l.getD k 0).toNat % 128:Nat):Int):=by omega
 rw[e];refine ZwV (7*k) _ _ (by omega) a ?_
 by_cases b:k=9
 ·have:=g b
  subst b;have f:2 ^ (7*9)=9223372036854775808:=by decide
  rw[f];omega
 ·have c:2 ^ (7*k)<=2 ^ 56:=Nat.pow_le_pow_right (by decide) (by omega)
  have i:(l.getD k 0).toNat % 128<=127:=by omega
  have:=Nat.mul_le_mul i c;have m:127*2 ^ 56<18446744073709551616:=by decide
  omega
theorem ZjE (v:Value) (l:List UInt8) (w:World) (E:Rd w v l):
 Calls prog 207 #[v] w fun e w'=>e=.returned (.tuple #[.int .u64 ((Qd l).1:Nat),.int .i64 ((Qd l).2:Nat)])∧w'=w:=by
 have C:=Ztv v l w E;obtain⟨ao,cap,rfl,ac,ab,S,A⟩:=E;clear S;have D:=ZZ C;clear C
 go_enter func207,ntmps207
 go_wp2_with fail
 refine D.o.mono ?_;rintro e w' ⟨c,rfl,a,rfl⟩;have a:Hid (Cnt l c):=a;clear D
 cases c with
 | zero=>
  have H:Hid (Qd l=(0,0)):=Zrh a.out;go_wp2;go_ret2;exact⟨by rw[H.out];rfl,rfl⟩
 | succ c=>
  obtain⟨aa,B,P,K⟩:=ZkK a.out;clear K;rcases A with A | ⟨b,X,rfl,q⟩
  ·subst A;simp at B
  have F:=q c B;obtain⟨y,t⟩:∃ y,y=(l.getD c 0).toNat:=⟨_,rfl⟩;rw[<-t] at F P;have d:Hid (y=(l.getD c 0).toNat):=t;have T:=ZZ q;clear t q;by_cases f:(c=9∧y≠1)∨(0<c∧y=0)
  ·have H:Hid (Qd l=(0,0)):=by
    rcases f with ⟨j,I⟩ | ⟨Q,L⟩
    ·subst j
     exact Ztw a.out (by rw[<-d.o];exact I)
    ·exact Zog a.out Q (by rw[<-d.o];exact L)
   by_cases j:c=9
   ·have m:(((c:Int)+1) == 10)=true:=beq_iff_eq.2 (by omega)
    have M:((y:Int) != 1)=true:=by rw[bne_iff_ne];omega
    clear f j;go_wp2;go_ret2;exact⟨by rw[H.out];rfl,rfl⟩
   ·have m:(((c:Int)+1) == 10)=false:=beq_eq_false_iff_ne.2 (by omega)
    have p:(1:Int)<(c:Int)+1:=by omega
    have G:((y:Int) == 0)=true:=beq_iff_eq.2 (by omega)
    clear f j;go_wp2;go_ret2;exact⟨by rw[H.out];rfl,rfl⟩
  ·have H:Hid (Qd l=(val (l.take (c+1)),c+1)∧val (l.take (c+1))<18446744073709551616):=Zri a.out (fun h=>by rw[<-d.o];omega) (fun h=>by rw[<-d.o];omega)
   have hw3:(c=9∧y=1)∨c=0∨(0<c∧c<9∧y≠0):=by omega
   have N:Hid (c=9->y=1):=fun h=>by omega
   clear f;rcases hw3 with hw3 | hw3 | hw3
   all_goals
    first
     | (have m:(((c:Int)+1) == 10)=true:=beq_iff_eq.2 (by omega)
        have M:((y:Int) != 1)=false:=by rw[bne_eq_false_iff_eq];omega
        have p:(1:Int)<(c:Int)+1:=by omega
        have G:((y:Int) == 0)=false:=beq_eq_false_iff_ne.2 (by omega))
     | (have m:(((c:Int)+1) == 10)=false:=beq_eq_false_iff_ne.2 (by omega)
        have p:¬ (1:Int)<(c:Int)+1:=by omega)
     | (have m:(((c:Int)+1) == 10)=false:=beq_eq_false_iff_ne.2 (by omega)
        have p:(1:Int)<(c:Int)+1:=by omega
        have G:((y:Int) == 0)=false:=beq_eq_false_iff_ne.2 (by omega))
    clear hw3;have Y:(((c:Int)+1) == 0)=false:=beq_eq_false_iff_ne.2 (by omega)
    go_wp2
    go_loop [5,35] (fun u i=>∃ k:Nat,k<=c+1∧i=.int .i64 k∧u=.int .u64 (val (l.take k):Nat)) (fun _ i=>c+1-(intOf i).toNat)
    case atStart=>exact⟨0,Nat.zero_le _,rfl,rfl⟩
    case round=>
     obtain⟨k,hk,rfl,rfl⟩:=hrel;by_cases Z:k<c+1
     ·have R:=T.o k (by omega)
      obtain⟨x,g⟩:∃ x,x=(l.getD k 0).toNat:=⟨_,rfl⟩;rw[<-g] at R;have W:x<256:=by rw[g];exact UInt8.toNat_lt _
      have U:=ZZ g;clear g;obtain⟨z,n⟩:∃ z,z=val (l.take k):=⟨_,rfl⟩;rw[<-n];have O:=ZZ n;clear n F;go_wp2
      go_round
      case rel=>
       refine⟨k+1,by omega,by go_num,?_⟩
       rw[O.o,U.o,Zxt l k (by omega) (by omega) (fun h=>?_)]
       have J:c=k:=by omega
       rw[<-J,<-d.o,N.o (by omega)]
       decide
      case measure=>simp[intOf];omega
     ·go_wp2
      go_ret2;have V:k=c+1:=by omega
      rw[H.out.1,V];exact⟨rfl,rfl⟩
theorem ZcI (v:Value) (l:List UInt8) (w:World) (g:Rd w v l):
 Calls prog 168 #[v] w fun e w'=>e=.returned (.tuple #[.int .i64 ((Qb l).1:Nat),.int .i64 ((Qb l).2:Nat)])∧w'=w:=by
 have a:=ZZ (ZjE v l w g);have H:Hid (Qb l=if(Qd l).1<4611686018427387904 then Qd l else(0,0)):=rfl
 generalize Qd l=d at *;obtain⟨u,k⟩:=d;obtain⟨U,b⟩:∃ U:Int,U=(u:Int):=⟨_,rfl⟩;simp only at a H;rw[<-b] at a;have j:0<=U:=by omega
 have f:=ZZ b;clear b;by_cases i:U<4611686018427387904
 ·go_enter func168,ntmps168
  go_wp2_with fail
  refine a.o.mono ?_;rintro e w' ⟨rfl,rfl⟩;go_wp2;go_ret2;have e:=H.out;have c:=f.o;rw[if_pos (by omega)] at e
  rw[e];exact⟨by rw[c];rfl,rfl⟩
 ·go_enter func168,ntmps168
  go_wp2_with fail
  refine a.o.mono ?_;rintro e w' ⟨rfl,rfl⟩;go_wp2;go_ret2;have e:=H.out;have c:=f.o;rw[if_neg (by omega)] at e
  rw[e];exact⟨rfl,rfl⟩
theorem Zaj (v:Value) (l:List UInt8) (w:World) (c:Rd w v l):
 Calls prog 201 #[v] w fun e w'=>e=.returned (.tuple #[.int .i64 (zag (Qd l).1),.int .i64 ((Qd l).2:Nat)])∧w'=w:=by
 have b:=ZZ (ZjE v l w c);have a:=Zks l;have f:=Jz l;generalize Qd l=d at *;obtain⟨u,k⟩:=d;simp only at b a f
 go_enter func201,ntmps201
 go_wp2_with fail
 refine b.o.mono ?_;rintro e w' ⟨rfl,rfl⟩
 go_wp2_with fail
 refine(Zxe u _ a).mono ?_;rintro e g ⟨rfl,rfl⟩;go_wp2;go_ret2;exact⟨rfl,rfl⟩
theorem ZfV:∀ (k v:Nat),Lib.leBytes (k+1) v=Lib.leBytes k v++[(v / 256 ^ k % 256).toUInt8]
 | 0,v=>by simp[Lib.leBytes]
 | k+1,v=>by
  have a:=ZfV k (v / 256);have e:v / 256 / 256 ^ k=v / 256 ^ (k+1):=by rw[Nat.div_div_eq_div_mul,Nat.pow_succ,Nat.mul_comm]
  rw[Lib.leBytes,a,e];simp[Lib.leBytes]
def Zhx (c k v:Nat):List UInt8:=Lib.leBytes k v++List.replicate (c-k) 0
theorem Zmn (c k v:Nat) (h:k<=c):(Zhx c k v).length=c:=by
 simp[Zhx,Lib.leBytes_length];omega
theorem Ztx (c k v:Nat) (h:k<c):(Lib.byteCells (Zhx c k v)).set k (.int .u8 ((v / 256 ^ k % 256:Nat):Int))=Lib.byteCells (Zhx c (k+1) v):=by
 have e:c-k=(c-(k+1))+1:=by omega
 unfold Zhx;rw[ZfV,e,List.replicate_succ];have a:(Lib.byteCells (Lib.leBytes k v)).length=k:=by rw[Yi,Lib.leBytes_length]
 have b:((v / 256 ^ k % 256).toUInt8).toNat=v / 256 ^ k % 256:=Lib.toUInt8_toNat (Nat.mod_lt _ (by decide))
 simp only [Lib.byteCells,List.map_append,List.map_cons,List.map_nil,b] at a ⊢;rw[List.set_append_right _ _ (by omega),a]
 simp
theorem ZyY (k:Nat):2 ^ (8*k)=256 ^ k:=by rw[Nat.pow_mul]
theorem Zty (v k:Nat):((v:Int) / 2 ^ (8*k)) % 256=((v / 256 ^ k % 256:Nat):Int):=by
 rw[<-ZyY];simp
theorem Zrj (v c:Nat) (w:World) (D:c<=8):
 Calls prog 186 #[.int .u64 (v:Int),.int .i64 (c:Int)] w fun e w'=>∃ v',e=.returned v'∧Own w' w.heap.size v' (Lib.leBytes c v)∧Below w.heap.size w w':=by
 obtain⟨B,y,A,z,x⟩:=info_parts Zkt
 go_enter func186,ntmps186
 go_wp2_with(at_make;refine wpList_make_full _ rfl _ _ 53 rfl w.heap.size 5 B (.int .u8 0) 1 underlying53 y A z _ _ _ _ c rfl rfl rfl rfl (by rw[x];omega) (by unfold maxLen;omega) zL ?_)
 intro g f n;have j:Below w.heap.size w g:=(Below.refl _ _).grown n zL (fun k b=>by cases b)
 have q:g.ownsRow w.heap.size 5 1 (.slice (some ⟨w.heap.size,0,none⟩) c c) c (Lib.byteCells (Zhx c 0 v)):=by
  have e:(madeCells #[Value.int .u8 0] c).toList=Lib.byteCells (Zhx c 0 v):=by
   rw[toList_madeCells_one];simp[Zhx,Lib.leBytes,Lib.byteCells]
  rw[<-e];exact f
 have u:=ZZ q;have t:=ZZ j;clear f q j n;go_wp2
 go_loopw[11] (fun i wr=>∃ k:Nat,k<=c∧i=.int .i64 (k:Int)∧Hid (wr.ownsRow w.heap.size 5 1 (.slice (some ⟨w.heap.size,0,none⟩) c c) c (Lib.byteCells (Zhx c k v)))∧Hid (Below w.heap.size w wr)) (fun i _=>c-(intOf i).toNat)
 case atStart=>exact⟨0,Nat.zero_le _,rfl,u,t⟩
 case round=>
  obtain⟨k,b,rfl,a,d⟩:=hrel;by_cases m:k<c
  ·have E:wr.cell? ⟨w.heap.size,k,none⟩=some (.int .u8 ((Zhx c k v).getD k 0).toNat):=by
    rw[World.ownsRow.cellAt a.out k (by omega),ZbS _ _ (by rw[Zmn c k v b];exact m)]
   have C:wr.frozen? ⟨w.heap.size,k,none⟩=false:=World.ownsRow.frozenAt a.out k;go_wp2;go_roundw
   case rel=>
    have p:=World.ownsRow.stored a.out k (Value.int .u8 ((v / 256 ^ k % 256:Nat):Int));rw[Ztx c k v m] at p;rw[Zty];exact⟨k+1,by omega,by go_num,p.1,d.out.setCell zL _⟩
   case measure=>simp[intOf];omega
  ·go_wp2
   go_ret;have e:k=c:=by omega
   refine⟨_,rfl,Own.mk' (l:=Lib.leBytes c v) a.out (by rw[Lib.leBytes_length]) ?_,d.out⟩
   rw[e];simp[Zhx]
theorem Zhy (v:Nat) (w:World) (h:v<4294967296):
 Calls prog 135 #[.int .u32 (v:Int)] w fun e w'=>∃ v',e=.returned v'∧Own w' w.heap.size v' (Lib.leBytes 4 v)∧Below w.heap.size w w':=by
 have a:Hid (Calls prog 186 #[.int .u64 (v:Int),.int .i64 4] w fun e w'=>∃ v',e=.returned v'∧Own w' w.heap.size v' (Lib.leBytes 4 v)∧Below w.heap.size w w'):=Zrj v 4 w (by omega)
 obtain⟨U,d⟩:∃ U:Int,U=(v:Int):=⟨_,rfl⟩;have j:0<=U:=by omega
 have i:U<4294967296:=by omega
 rw[<-d] at a ⊢;clear d h
 go_enter func135,ntmps135
 go_wp2_with fail
 refine a.o.mono ?_;rintro e w' ⟨v',rfl,b,c⟩;have g:=ZZ b;have f:=ZZ c;clear b c a;go_wp2;go_ret;exact⟨v',rfl,g.o,f.o⟩
theorem ZkL:∀ l:List UInt8,Lib.leNat l<256 ^ l.length
 | []=>by simp[Lib.leNat]
 | c::r=>by
  have h:=ZkL r;have a:=c.toNat_lt;simp only [Lib.leNat,length_cons,Nat.pow_succ];omega
theorem ZjF:∀ (l:List UInt8) (c:UInt8),Lib.leNat (l++[c])=Lib.leNat l+c.toNat*256 ^ l.length
 | [],c=>by simp[Lib.leNat]
 | d::r,c=>by
  have h:=ZjF r c;simp only [List.cons_append,Lib.leNat,length_cons,Nat.pow_succ,h];rw[Nat.mul_add,<-Nat.mul_assoc,Nat.mul_comm 256 c.toNat,Nat.mul_assoc,Nat.mul_comm 256 (256 ^ r.length)];omega
theorem Zrk (l:List UInt8) (k:Nat) (h:k<l.length):Lib.leNat (l.take (k+1))=Lib.leNat (l.take k)+(l.getD k 0).toNat*256 ^ k:=by
 rw[ZgP l k h,ZjF,length_take,Nat.min_eq_left (by omega)]
theorem ZkM (l:List UInt8) (k:Nat) (h:k<=l.length):Lib.leNat (l.take k)<256 ^ k:=by
 have:=ZkL (l.take k)
 rwa [length_take,Nat.min_eq_left h] at this
theorem ZvS (l:List UInt8) (k:Nat) (c:k<l.length) (e:k<8):
 bits .or .u64 ((Lib.leNat (l.take k):Nat):Int) (IntKind.u64.wrap (((l.getD k 0).toNat:Int)*2 ^ (8*k)))=((Lib.leNat (l.take (k+1)):Nat):Int):=by
 have a:=ZkM l k (by omega)
 rw[Zrk l k c,<-ZyY];rw[<-ZyY] at a;refine ZwV (8*k) _ _ (by omega) a ?_
 have b:2 ^ (8*k)<=2 ^ 56:=Nat.pow_le_pow_right (by decide) (by omega)
 have f:=(l.getD k 0).toNat_lt;have d:(l.getD k 0).toNat<=255:=by omega
 have:=Nat.mul_le_mul d b;have g:255*2 ^ 56<18446744073709551616:=by decide
 omega
theorem Zmo (v:Value) (l:List UInt8) (w:World) (j:Rd w v l):
 Calls prog 161 #[v] w fun e w'=>e=.returned (.int .u64 (Lib.leNat (l.take 8):Nat))∧w'=w:=by
 obtain⟨ao,cap,rfl,D,m,p,d⟩:=j;clear p;have u:(l.length:Int)<=9223372036854775807:=by unfold maxLen at m;omega
 by_cases C:(l.length:Int)<=8
 all_goals
  go_enter func161,ntmps161
  go_wp2
  go_loop [3,8] (fun n i=>∃ k:Nat,i=.int .i64 k∧k<=8∧k<=l.length∧n=.int .u64 (Lib.leNat (l.take k):Nat)) (fun _ i=>8-(intOf i).toNat)
  case atStart=>exact⟨0,rfl,by omega,by omega,rfl⟩
  case round=>
   obtain⟨k,rfl,q,A,rfl⟩:=hrel;by_cases c:k<8∧k<l.length
   ·obtain⟨c,a⟩:=c
    rcases d with d | ⟨b,t,rfl,f⟩
    ·subst d;simp at a
    ·have B:=f k a
     have g:=ZZ (ZvS l k a c);have x:(l.getD k 0).toNat<256:=UInt8.toNat_lt _;clear f;generalize (l.getD k 0).toNat=y at *;generalize Lib.leNat (l.take k)=z at *;go_wp2
     go_round
     case rel=>exact⟨k+1,by go_num,by omega,by omega,by rw[g.o]⟩
     case measure=>simp[intOf];omega
   ·go_wp2
    go_ret;refine⟨ZbT ?_,rfl⟩;by_cases e:k=8
    ·rw[e]
    ·rw[List.take_of_length_le (by omega:l.length<=k),List.take_of_length_le (by omega:l.length<=8)]
def bs (l:List UInt8):ByteArray:=⟨l.toArray⟩
theorem Ztz (l:List UInt8):(bs l).toList=l:=ByteArray.toList_mk l
theorem ZyZ (a b:List UInt8):((bs a).toList == (bs b).toList)=(a == b):=by rw[Ztz,Ztz]
theorem Rd.str (h:Rd w v l):(convert 53 9 v).run prog w=.ok (.string (bs l)) w:=by
 obtain⟨ao,cap,rfl,_,_,d,h⟩:=h
 cases ao with
 | none=>
  have b:l=[]:=List.eq_nil_of_length_eq_zero (by have:=d rfl;omega)
  subst b;exact run_convert_bytes_nil w 53 5 underlying53 underlying5 0 cap 9 underlying9
 | some a=>
  have b:(loadCells a l.length).run prog w=.ok ((l.map fun c=>(c.toNat:Int)).map (Value.int .u8)).toArray w:=by
   have:=run_loadCells_list (P:=prog) w a (Lib.byteCells l) (Rd.cells h a rfl);rw[Yi] at this;rw[this];simp[Lib.byteCells,Function.comp_def]
  rw[run_convert_bytes_string w 53 9 5 _ l.length cap underlying53 underlying5 underlying9,run_bytesToString w _ l.length cap _ b,foldl_push_bytes]
  have e:(List.map (fun n:Int=>UInt8.ofNat n.toNat) (List.map (fun c:UInt8=>(c.toNat:Int)) l))=l:=by
   rw[List.map_map]
   conv=>rhs;rw[<-List.map_id l]
   apply List.map_congr_left;intro c _;simp
  rw[e];simp[bs,ByteArray.empty,ByteArray.emptyWithCapacity];rfl
def Zxu (B:Nat) (w:World) (p:Nat) (d:Dk) (N T:Nat):Prop:=∃ F,Dsk F w p d N T∧∀ k,F k->B<=k
theorem ZpY (B:Nat) (room:Int) (f:I64 room) (w:World) (d:B<=w.heap.size):
 Calls prog 9 #[.int .i64 room] w fun e w'=>∃ p,e=.returned (ptr p)∧Zxu B w' p (ZiS room) 0 0∧Below B w w':=by
 refine(Zxp room f w).mono ?_;rintro e w' ⟨p,b,a,c⟩;exact⟨p,b,⟨_,a,fun k g=>by omega⟩,c.mono d⟩
theorem Dsk.ltF (h:Dsk F w p d N T):∀ k,F k->k<w.heap.size:=by
 obtain⟨L,a,_⟩:=h;exact a.lt
theorem Zrl (w:World) (h:Zxu B w p d N T) (b:N<=1000000):
 Calls prog 28 #[ptr p] w fun e w'=>∃ v,e=.returned v∧Qo w' w.heap.size v ((Q6 d).map Prod.fst)∧Below w.heap.size w w':=by
 obtain⟨F,⟨L,a,c,_⟩,f⟩:=h;exact Zet w a c b
theorem Zxu.ok (h:Zxu B w p d N T):OkD d∧Bnd d N T:=by
 obtain⟨F,⟨L,c,b,a,_⟩,e⟩:=h;exact⟨b,a⟩
theorem Jc (w:World) (o:Obj):Below w.heap.size w (w.alloc o):=(Below.refl _ w).alloc zL o
theorem Rd.mid (h:Rd w (.slice ao n cap) l) (i j m:Nat) (F:i<=j) (D:j<=l.length) (y:j<=m) (B:m<=cap):Rd w (sliced ao i j m 1) ((l.drop i).take (j-i)):=by
 obtain⟨z,A,g,E,C,f,a⟩:=h;simp only [Value.slice.injEq] at g;obtain⟨rfl,rfl,rfl⟩:=g;have c:((l.drop i).take (j-i)).length=j-i:=by simp;omega
 unfold sliced;by_cases p:m=i
 ·rw[if_pos p]
  have e:j-i=0:=by omega
  refine⟨ao,m-i,by rw[c],by omega,by omega,fun d=>by have:=f d;omega,.inl ?_⟩
  rw[e];simp
 ·rw[if_neg p]
  refine⟨ao.map (·.add (i*1)),m-i,by rw[c],by omega,by omega,fun d=>?_,?_⟩
  ·have v:ao=none:=by simpa using d
   have:=f v;omega
  ·rcases a with a | ⟨b,t,x,u⟩
   ·exact .inl (by rw[a];simp)
   ·refine .inr ⟨b,t+i,?_,fun k q=>?_⟩
    ·rw[x,Nat.mul_one,Option.map_some,Addr.add_lit]
    ·rw[c] at q
     rw[Nat.add_assoc,u (i+k) (by omega)]
     simp[List.getD,q]
theorem Zw:prog.elem 53=5:=by kernel_rfl
theorem Zcd (w:World):(sizeOf 5).run prog w=.ok 1 w:=by
 obtain⟨c,a,_,b,_⟩:=info_parts Zkt;simp[sizeOf,typeInfo,a,b]
theorem Xf:prog.underlying 53=some (.slice (prog.elem 53)):=by rw[Zw];exact underlying53
theorem Zhz (w:World) (v:Value) (l:List UInt8) (a:Rd w v l) (k:IntKind) (i:Int) (b:0<=i) (d:i<=l.length):
 ∃ v',(Instr.sliceAt 53 v (some (.int k i)) none none).run prog w=.ok v' w∧Rd w v' (l.drop i.toNat):=by
 have h:=a;obtain⟨ao,cap,rfl,c,_⟩:=a;refine⟨sliced ao i.toNat l.length cap 1,?_,?_⟩
 ·rw[run_sliceAt_slice w 53 _ _ _ _ Xf,run_slice_l w 53 ao l.length cap Xf k i b (by omega),Zw,Zcd]
  rfl
 ·have:=h.mid i.toNat l.length cap (by omega) zL c zL
  rw[List.take_of_length_le (by simp)] at this
  exact this
theorem Zfo (w:World) {c:Array Oper} {rest:List Oper} {o:Oper} {a:Act} {Q:Exit->Act->World->Prop} (f:o.guard=none) (x:Operand) (lo d e:Option Operand)
 (j:o.op=.slice 53 x lo d e) (l:List UInt8)
 (b:∃ v',(Instr.sliceAt 53 (a.eval x) (lo.map a.eval) (d.map a.eval) (e.map a.eval)).run prog w=.ok v' w∧Rd w v' l)
 (h:∀ v',Rd w v' l->wpList prog c Q rest (a.put o.dst v') w):wpList prog c Q (o::rest) a w:=
 wpList_plain f fun _ g=>by
  obtain⟨v',b,i⟩:=b;unfold Oper.wp execOp;simp only [j,b,Sem.run_bind,Sem.run_pure,Result.andThen_ok];exact g _ _ (h v' i)
end Go.Proofs.YtnahjngbneicaaaGreatDoor
