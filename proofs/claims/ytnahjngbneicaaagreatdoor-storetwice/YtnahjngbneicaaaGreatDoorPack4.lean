import Derived.Test.YtnahjngbneicaaaGreatDoorPack3
import Derived.Sort.OwnSortedInts
namespace Go.Proofs.YtnahjngbneicaaaGreatDoor
open _root_.Go.Proofs.Tryz
open List (getElem_cons_succ getElem_cons_zero getElem_toArray length_cons length_take setIfInBounds_toArray set_cons_succ set_cons_zero)
set_option maxHeartbeats 4000000
set_option maxRecDepth 100000
open Go.RowKit Go.Maps Go.Shelf
variable {B N T b c cap n p r:Nat} {v:Value} {l:List UInt8} {f:Int->Option Nat} {w w':World} {F:Nat->Prop} {L:Lay} {d:Dk} {u:Int} {ao:Option Addr}
theorem Ztq {l:List Int} (w:World) (h:Qo w B v l) (u:l.length<=10000000):
 Calls prog 67 #[v] w fun e w'=>e=.returned (.tuple #[])∧Qo w' B v (l.mergeSort fun x y=>decide (x<=y))∧w.grownBy w' v.ownBlock:=by
 have d:=h;have c:w.grownBy w v.ownBlock:=⟨rfl,rfl,rfl,Nat.le_refl _,fun _ _ _=>rfl⟩
 rcases h.2 with ⟨rfl,m⟩ | ⟨g,cap,cur,rfl,i,b,k,q,p,f⟩
 ·have e:l=[]:=List.eq_nil_of_length_eq_zero m
  subst e;have a:=Any.slices_Sort_int_none ZyV none 0 w;refine a.mono ?_;rintro e w' ⟨rfl,rfl⟩;exact⟨rfl,by simpa using d,c⟩
 ·by_cases e:l=[]
  ·subst e
   have a:=Any.slices_Sort_int_none ZyV (some ⟨g,0,none⟩) cap w;refine a.mono ?_;rintro e w' ⟨rfl,rfl⟩;exact⟨rfl,by simpa using d,c⟩
  ·have j:Sort.Holds (Value.int .i64) w g 0 l.toArray:=holds_of_blockI b (by rw[Nat.mul_one] at f;exact f)
   have a:=Any.slices_Sort_int ZyV g 0 cap l w j (Array.getElem?_eq_some_iff.1 b).1 (by omega)
   refine a.mono ?_;rintro e w' ⟨rfl,n,os,rfl⟩;refine⟨rfl,?_,grownBy_sortedI _⟩;have t:=ownsRow_sortedI (n:=n) (os:=os) (ss:=l) (ts:=l.mergeSort fun x y=>decide (x<=y)) (by simp) i b k q p
   unfold Qo;rw[show(l.mergeSort fun x y=>decide (x<=y)).length=l.length by simp]
   exact t
structure Met (f:Int->Option Nat) (left:Lit->Bool) (l:List Int):Prop where
 mem:∀ p,I64 p->(p ∈ l↔(f p).isSome=true∧left (.int .i64 p)=false)
 nd:l.Nodup
 i:∀ p ∈ l,I64 p
theorem Met.step {left:Lit->Bool} {l:List Int} (h:Met f left l) {x:Int} (d:I64 x) (m:left (.int .i64 x)=true) (k:(f x).isSome=true):Met f (fun z=>left z && !z.sameKey (.int .i64 x)) (l++[x]):=by
 refine⟨fun p hp=>?_,?_,fun p hp=>?_⟩
 ·rw[List.mem_append,h.mem p hp,List.mem_singleton]
  by_cases e:p=x
  ·subst e
   have c:(Lit.int .i64 p).sameKey (.int .i64 p)=true:=WideAt.sameKey_self (by first | exact trivial | simp[WideAt.IsKeyLit])
   simp[c,k]
  ·have c:(Lit.int .i64 p).sameKey (.int .i64 x)=false:=sameKey_ne (by intro h;injection h with _ h;exact e h)
   simp[c,e]
 ·rw[List.nodup_append]
  refine⟨h.nd,by simp,fun a g b j=>?_⟩
  rw[List.mem_singleton.1 j];rintro rfl;have:=((h.mem a d).1 g).2;rw[m] at this
  cases this
 ·rcases List.mem_append.1 hp with hp | hp
  ·exact h.i p hp
  ·rw[List.mem_singleton.1 hp];exact d
theorem Met.done {left:Lit->Bool} {l:List Int} (h:Met f left l) (w:∀ k,left k=false) {d:Dir} (g:Y5 d) (u:∀ p ∈ d,I64 p.1) (n:∀ p,I64 p->(f p).isSome=(look d p).isSome):(l.mergeSort fun x y=>decide (x<=y))=d.map Prod.fst:=by
 have z:(l.mergeSort fun x y=>decide (x<=y)).Pairwise (fun a b=>decide (a<=b)=true):=List.pairwise_mergeSort (fun a b c e t=>by simp only [decide_eq_true_eq] at *;omega) (fun a b=>by simp only [Bool.or_eq_true,decide_eq_true_eq];omega) l
 have q:=List.mergeSort_perm l fun x y=>decide (x<=y)
 have A:(l.mergeSort fun x y=>decide (x<=y)).Nodup:=q.nodup_iff.2 h.nd
 refine ZfJ ?_ (ZfI g) fun x=>?_
 ·refine(z.and A).imp fun {a b} hab=>?_
  have e:=of_decide_eq_true hab.1;have t:=hab.2;omega
 ·rw[q.mem_iff,List.mem_map]
  constructor
  ·intro j
   have e:=((h.mem x (h.i x j)).1 j).1;rw[n x (h.i x j)] at e;obtain⟨y,v⟩:=Option.isSome_iff_exists.1 e;exact⟨(x,y),(Je g x y).1 v,rfl⟩
  ·rintro⟨p,hpd,rfl⟩
   have m:=u p hpd;have e:look d p.1=some p.2:=(Je g p.1 p.2).2 hpd;exact(h.mem p.1 m).2 ⟨by rw[n p.1 m,e];rfl,w _⟩
theorem Zhv {D:DataW Unit} (h:w.ownsMap prog 3 ZaA b n D):Maps.size D<=n:=by
 obtain⟨d,e,c,F,a,rfl⟩:=h;rw[size_eq,length_sorted];simpa using a
theorem Zoe {a:Nat} {D:DataW Unit} {left:Lit->Bool} (h:w.ranges prog 3 ZaA b r n D left a) (c:w'.heap[b]?=w.heap[b]?) (j:w'.heap[r]?=w.heap[r]?):w'.ranges prog 3 ZaA b r n D left a:=by
 obtain⟨e,f,i,l,p,g,F,k,m,d,rest⟩:=h;exact⟨e,f,i,l,p,c.trans g,F,k,m,j.trans d,rest⟩
theorem Zet (w:World) (h:Q1 F w p L d u N) (t:OkD d) (hN:N<=1000000):
 Calls prog 28 #[ptr p] w fun e w'=>∃ v,e=.returned v∧Qo w' w.heap.size v ((Q6 d).map Prod.fst)∧Below w.heap.size w w':=by
 obtain⟨⟨-,-,c2,-,-,-⟩,-⟩:=h.cells;obtain⟨D,B,I⟩:=h.rest.now;have au:=ZZ B;have ab:Hid (Maps.size D<=N):=ZZ (Zhv B);have ai:Hid (L.now<w.heap.size):=ZZ h.rest.now.lt;have P:Hid (∀ q,I64 q->Maps.has D (.int .i64 q)=(look (Q6 d) q).isSome):=ZZ (fun q C=>by rw[I.has C];cases look (Q6 d) q <;> rfl)
 have ar:Hid (∀ left l,Met (look (Q6 d)) left l->(∀ k,left k=false)->(l.mergeSort fun x y=>decide (x<=y))=(Q6 d).map Prod.fst):=ZZ (fun left l hm hl=>hm.done hl t.dir.rise (fun p hp=>Zcc (t.dir.may p hp).1) (fun _ _=>rfl))
 clear h B I t
 go_enter func28,ntmps28
 go_wp2_with(first
  | (at_range;refine wpList_range_own _ rfl _ 65 rfl 3 115 Zby underlying65 ZaA L.now N D rfl au.o ?_;intro w0 ao i av)
  | go_in)
 go_frame
 go_loopw[3] (fun v wr=>∃ (left:Lit->Bool) (G:Nat) (l:List Int),Hid (wr.ranges prog 3 ZaA L.now w.heap.size N D left G)∧G+l.length<=Maps.size D∧Hid (Qo wr (w.heap.size+1) v l)∧Hid (Met (look (Q6 d)) left l)∧Hid (Below w.heap.size w wr∧w.heap.size+1<=wr.heap.size))
  (fun _ wr=>wr.rangeLeft L.now w.heap.size)
 case atStart=>
  refine⟨_,_,[],ZZ ao,by simp,ZZ (Qo.nil _ _),ZZ ⟨fun q C=>?_,List.nodup_nil,by simp⟩,ZZ ⟨⟨i.os,i.tape,i.output,i.size,fun k a=>i.block k a (by simp)⟩,by omega⟩⟩
  rw[P.o q C]
  cases look (Q6 d) q <;> simp
 case round=>
  obtain⟨left,G,l,J,ad,m,H,j⟩:=hrel
  go_wp2_with(first
   | (at_next;refine wpList_next_ranges _ rfl _ rfl 3 Zby ZaA (Value.int .i64) (fun b:Nat=>ptr b) (fun key kl a=>by obtain⟨x,rfl,_⟩:=Maps.keyOf_int_inv underlying3 a;exact⟨x,rfl⟩) (fun v y E=>by obtain⟨c,rfl,_⟩:=ZdI E;exact⟨c,rfl⟩) L.now w.heap.size N _ _ _ rfl J.o ?_ ?_)
   | go_in)
  ·intro ae Y
   have an:=ZZ Y;have ap:l.length<=10000000:=by have:=ab.o;omega
   have HS:=ZZ (Ztq _ m.o ap);clear ae Y
   go_wp2_with fail
   refine HS.o.mono ?_;rintro e W1 ⟨rfl,ac,f⟩;have af:Hid (Below w.heap.size w W1):=ZZ (j.o.1.grown f j.o.1.size (fun k a=>by have:=(World.ownsRow.lt m.o k a).1;omega))
   have z:=ZZ ac;clear ac f;go_wp2;go_ret;refine⟨_,rfl,?_,af.o⟩;rw[<-ar.o _ _ H.o an.o];exact z.o.mono (by omega)
  ·intro x c kl yd yp n U T X E Q K M f aq aw
   obtain⟨x',ex,rfl,W⟩:=Maps.keyOf_int_inv underlying3 T
   cases ex
   have R:=ZZ (Zb W);have HF:Hid ((look (Q6 d) x).isSome=true):=ZZ (by rw[<-P.o x R.o];exact has_true_of_atKey Q)
   have am:=ZZ (H.o.step R.o X HF.o);have ag:=ZZ K;have z:Hid (Qo n (w.heap.size+1) _ l):=ZZ (World.ownsRow.kept m.o f (.inr (fun e=>by have:=(World.ownsRow.lt m.o _ e).1;omega)))
   have A:Hid (Below w.heap.size w n∧w.heap.size+1<=n.heap.size):=ZZ ⟨j.o.1.grown f j.o.1.size (fun k a=>by have:=Option.some.inj a;omega),by have:=j.o.2;omega⟩
   have aj:=ZZ M
   have V:l.length<=1000000∧U+(l++[x]).length<=Maps.size D:=by
    have:=ab.o;simp only [List.length_append,List.length_singleton];omega
   have S:=ZZ V;clear T X E Q K M f aq W V ad
   go_wp2_with(at_builtin;refine(fun(h:True->_)=>h trivial) ?_)
   intro _;refine ZeY n rfl _ _ rfl (w.heap.size+1) u3 l rfl z.o x rfl S.o.1 A.o.2 ?_;intro v2 O Z g;have al:=ZZ Z;have aa:=ZZ (Zoe ag.o (g.block _ (by have:=ai.o;omega)) (g.block _ (by omega)))
   have ak:Hid (Below w.heap.size w O∧w.heap.size+1<=O.heap.size):=ZZ ⟨A.o.1.trans (g.mono (by omega)),by have:=A.o.2;have:=g.size;omega⟩
   clear Z g;go_wp2;go_roundw
   case rel=>exact⟨_,U,l++[x],aa,S.o.2,al,am,ak⟩
   case measure=>rw[aa.o.left_eq,J.o.left_eq];exact aj.o
theorem Q1.synced {b:World} (h:Q1 F w p L d u N) (l:Below w.heap.size w b) (y:b.heap.size=w.heap.size+1) (m:Xy b w.heap.size N (fun n=>(look (Q6 d) n).map L.ps)):
 Q1 (Gr F w b) ((b.setCell ⟨p,3,none⟩ (.map (some w.heap.size))).setCell ⟨p,4,none⟩ (.slice none 0 0)) p { L with kept:=w.heap.size,wv:=.slice none 0 0,cs:=[] } { d with kept:=Q6 d,waits:=[] } u N:=by
 have e:=h.more l;have q:=e.rest
 have f:∀ k,k≠p->((b.setCell ⟨p,3,none⟩ (.map (some w.heap.size))).setCell ⟨p,4,none⟩ (.slice none 0 0)).heap[k]?=b.heap[k]?:=fun k j=>by
  rw[Below.heap_setCell _ _ _ _ j,Below.heap_setCell _ _ _ _ j]
 have a:=q.keep e.head (fun k _ j=>f k j)
 refine⟨(e.head.set 3 _).set 4 _,⟨a.now,m.keep (f _ (by have:=h.lt p h.fh;show w.heap.size≠p;omega)),World.ownsRow_nil _ _ _ _,rfl,(fun i c v t=>by simp at t),a.file,a.psn,a.vsn,?_,a.fn,.inr ⟨Nat.le_refl _,by show w.heap.size<_;omega⟩,(fun g x=>by cases x),a.fp,a.fv⟩,e.fh,fun k f=>?_⟩
 ·have:=h.rest.now.lt
  show L.now≠w.heap.size;omega
 ·have:=e.lt k f
  simpa using this
theorem Zof (w:World) (h:Dsk F w p d N T):
 Calls prog 107 #[ptr p] w fun e w'=>ZfU F w p (Xs d).1 (Xs d).2 (N+2) T e w':=by
 have G:=ZZ h;obtain⟨L,h,m,E,B,z⟩:=h;have H:=ZZ h;have x:=ZZ m;have g:=ZZ E;have i:=ZZ (And.intro B z);have c:=ZZ (Zma w h);obtain⟨⟨-,-,R,S,Q,-⟩,-,P,K,-⟩:=h.cells;have M:=ZZ (ZqU h.rest.now);clear m E B z;unfold Xs;by_cases a:d.power=0
 ·rw[if_pos a]
  rw[a] at c;clear a h
  go_enter func107,ntmps107
  go_wp2_with fail
  refine c.o.mono ?_;rintro e w' ⟨rfl,rfl⟩;go_wp2;go_ret;exact ZfU.same G.o (by omega) zL
 rw[if_neg a];have u:(d.power != 0)=true:=by simpa using a
 rw[u] at c;clear a u h
 go_enter func107,ntmps107
 go_wp2_with fail
 refine c.o.mono ?_;rintro e w' ⟨rfl,rfl⟩
 go_wp2_with fail
 refine M.o.mono ?_;rintro e C ⟨rfl,n,l,b⟩;have A:=ZZ (H.out.synced b l n);have q:=ZZ (H.out.more b);have X:=ZZ b;obtain⟨⟨-,-,-,O,y,-⟩,-,V,U,-⟩:=q.o.cells;obtain⟨va,Y,Z,t⟩:=Zer q.o.rest.row;rw[t] at y;have v:Hid (Qj F w' ((C.setCell ⟨p,3,none⟩ (.map (some w'.heap.size))).setCell ⟨p,4,none⟩ (.slice none 0 0))):=ZZ (((Qj.ofBelow b).setCell 3 (fun _=>H.out.fh) _).setCell 4 (fun _=>H.out.fh) _)
 obtain⟨j,f⟩:∃ j,j=(C.setCell ⟨p,3,none⟩ (.map (some w'.heap.size))).setCell ⟨p,4,none⟩ (.slice none 0 0):=⟨_,rfl⟩;rw[<-f] at A v;have D:=ZZ f;have aa:=ZZ l;clear R S Q P K n l b t f
 go_upto_region 5 with fail
 rw[<-D.o];clear D O y V U
 go_wp2_with fail
 refine(Zcb j A.o i.o.2).mono ?_;rintro e W4 ⟨rfl,I,W⟩;go_wp2;go_ret;refine⟨rfl,_,⟨_,I.mono (by omega),Zgx (fs:=d.files) x.o.dir x.o.keep,⟨by have:=g.o.files;show d.files.length<=_;omega,?_,g.o.bytes⟩,i.o.1,Zdb i.o.2⟩,v.o.trans W (fun k hk hf=>?_),fun k hk=>?_⟩
 ·have h1:=g.o.names
  have J:=Zbn d d.waits.length;rw[ZcY] at J;show(Q6 d).length+0<=_;omega
 ·rcases hf with hf | hf
  ·exact hf
  ·omega
 ·rcases hk with hk | hk
  ·exact .inl hk
  ·exact .inr hk.1
open Go.RowKit Go.Maps
open Go.ChangeMaps Go.MapKept
open Go.WideElems (Fit rd rg pl rd_val elemAt)
theorem Zml:∀ {a b:List Int},a.Nodup->(∀ x ∈ a,x ∈ b)->a.length<=b.length
 | [],_,_,_=>Nat.zero_le _
 | x::a,b,hn,hs=>by
  rw[List.nodup_cons] at hn;have c:=hs x (List.mem_cons_self ..);have e:=Zml (a:=a) (b:=b.erase x) hn.2 fun y d=>(List.mem_erase_of_ne (by rintro rfl;exact hn.1 d)).2 (hs y (List.mem_cons_of_mem _ d))
  have f:=List.length_erase_of_mem c;have g:=List.length_pos_of_mem c;rw[length_cons];omega
def toI:Value->Int
 | .int _ x=>x
 | _=>0
theorem Xy.tight (h:Xy w b n f) {l:List Int} (H:∀ p,I64 p->(f p).isSome=true->p ∈ l):Xy w b l.length f:=by
 obtain⟨D,⟨g,u,q,F,P,rfl⟩,t⟩:=h
 have k:∀ e ∈ g.toList,∃ x,e.key=.int .i64 x∧I64 x:=fun e j=>by
  obtain⟨y,i⟩:=F.reads e j;obtain⟨x,d,_,B⟩:=Maps.keyOf_int_inv underlying3 (WideElems.rd_key i);exact⟨x,d,Zb B⟩
 refine⟨_,⟨g,u,q,F,?_,rfl⟩,t⟩
 have N:(g.toList.map fun e=>toI e.key).Nodup:=by
  have M:=((stamped_iff g u).1 F.stamped).2.2;rw[List.Nodup,List.pairwise_map];refine List.Pairwise.imp_of_mem ?_ M;intro a c G C E e;obtain⟨x,d,_⟩:=k a G;obtain⟨y,i,_⟩:=k c C;rw[d,i] at e;have:x=y:=e;exact E (by rw[d,i,this])
 have L:∀ x ∈ (g.toList.map fun e=>toI e.key),x ∈ l:=fun x d=>by
  obtain⟨e,j,rfl⟩:=List.mem_map.1 d;obtain⟨x,d,m⟩:=k e j;rw[d];refine H x m ?_;rcases Maps.fit_look false Zby underlying65 (Ztj w) q F (keyOf_int_mk underlying3 (ZvK m)) with ⟨_,J,_⟩ | ⟨O,y,_,_,_,K,I,_⟩
  ·exact absurd d (J e j)
  ·cases ef:f x with
   | some _=>rfl
   | none=>
    obtain⟨A,_,rfl⟩:=ZdI K;refine(Ztl (x:=A) fun z=>?_).elim
    have v:=I z;rw[t x m z,ef] at v;exact v.symm
 have:=Zml N L;simpa using this
open Go.RowKit
theorem Ztr {s:Nat} {t:TypeId} {xs:List Value} (h:w.ownsRow 0 t s v n xs):∃ ao cap,v=.slice ao n cap∧n<=cap∧((ao=none∧cap=0)∨∃ g,ao=some ⟨g,0,none⟩):=by
 rcases h.2 with ⟨a,b⟩ | ⟨g,cap,cur,a,_,_,c,_⟩
 ·exact⟨none,0,by rw[a,b],by omega,.inl ⟨rfl,rfl⟩⟩
 ·exact⟨some ⟨g,0,none⟩,cap,a,c,.inr ⟨g,rfl⟩⟩
theorem _root_.Go.World.grownBy.trans2 {a b c:World} (h:a.grownBy b (some r)) (k:b.grownBy c (some r)):a.grownBy c (some r):=Zhq h k
theorem Q1.lost {l:Dir} (h:Q1 F w p L d u N) (C:w.heap.size<=w'.heap.size)
 (q:∀ k,F k->k≠p->k≠L.now->k≠L.kept->w'.heap[k]?=w.heap[k]?) (y:Bk 69 w' p (Zfm { L with wv:=.slice none 0 0,cs:=[] } d u))
 (m:Xy w' L.now N (fun n=>(look l n).map L.ps)) (x:Xy w' L.kept N (fun n=>(look l n).map L.ps)):
 Q1 F w' p { L with wv:=.slice none 0 0,cs:=[] } { d with kept:=l,waits:=[] } u N:=by
 have a:=h.rest;have e:∀ {t:TypeId} {k:Nat} {cs:Array Value},Bk t w k cs->F k->t≠69->w'.heap[k]?=w.heap[k]?:=fun e j z=>q _ j (e.ne h.head z) (e.neMap a.now) (e.neMap a.kept)
 refine⟨y,⟨m,x,World.ownsRow_nil _ _ _ _,rfl,(fun i c v b=>by simp at b),fun i b=>?_,a.psn,a.vsn,a.nk,a.fn,a.fk,(fun g f=>by cases f),a.fp,a.fv⟩,h.fh,fun k j=>by have:=h.lt k j;omega⟩
 refine(a.file i b).keep (e (a.file i b).box (a.fp i b) (by decide)) fun g f=>?_
 obtain⟨B,A⟩:=J3 (a.file i b).own f;exact e A (a.fv i b g f) (by decide)
theorem Zhw (names:Int) (w:World) (h:Q1 F w p L d u N) (ae:OkD d) (al:Bnd d N T) (hN:N<=1000000):
 Calls prog 31 #[ptr p,.int .i64 names] w fun e w'=>e=.returned (.tuple #[])∧Q1 F w' p { L with wv:=.slice none 0 0,cs:=[] } { d with kept:=Zy d (Zx names d.waits.length),waits:=[] } u N∧Qj F w w':=by
 have H:=ZZ h;have av:=ZZ ae;have aQ:=ZZ al;have hW:d.waits.length<=N:=by have:=al.names;omega
 obtain⟨K,hK⟩:∃ K,K=Zx names d.waits.length:=⟨_,rfl⟩;have aZ:K<=d.waits.length:=by rw[hK];exact Zea _ _
 rw[<-hK];have ay:Hid (∀ q,Calls prog 72 #[.int .i64 names,.int .i64 (d.waits.length:Int)] (w.drewN q) fun e w'=>e=.returned (.int .i64 (K:Int))∧w'=w.drewN q):=ZZ (fun q=>by rw[hK];exact Zmc names d.waits.length (by omega) (w.drewN q))
 obtain⟨⟨-,-,-,c3,c4,-⟩,-,-,f4,-⟩:=h.cells;obtain⟨ao,cap,M,aU,aa⟩:=Ztr h.rest.row;rw[h.rest.many] at M aU;rw[M] at c4;have a1:=ZZ M
 have aq:Hid (∀ k,k<K->∃ g c y,ao=some ⟨g,0,none⟩∧d.waits[k]?=some c∧ChV F w L.ps c y∧w.cell? ⟨g,k,none⟩=some y∧ZsI d.files.length c∧Zy d (k+1)=chD (Zy d k) c∧g≠L.kept):=ZZ (fun k hk=>by
  have U:k<d.waits.length:=by omega
  have aE:k<L.cs.length:=by rw[h.rest.many];exact U
  rcases aa with ⟨_,aX⟩ | ⟨g,rfl⟩
  ·omega
  ·have ap:L.wv.ownBlock=some g:=by rw[M];rfl
   refine⟨g,d.waits[k],L.cs[k],rfl,List.getElem?_eq_getElem U,h.rest.wait k _ _ (List.getElem?_eq_getElem U) (List.getElem?_eq_getElem aE),?_,ae.chs _ (List.getElem_mem U),ZsM d U,?_⟩
   ·have:=World.ownsRow.cells h.rest.row ap k _ (List.getElem?_eq_getElem aE)
    rw[Addr.add_lit,Nat.zero_add] at this;exact this
   ·obtain⟨aY,aV⟩:=J3 h.rest.row ap
    exact aV.neMap h.rest.kept)
 clear ae al M aa hK h
 go_enter func31,ntmps31
 go_wp2;refine wp_region_quiet_lit (by kernel_rfl) (by kernel_rfl) ?_
 repeat (go_big_quiet_step ((go_at_call 72;exact Calls.quiet_of_same (ay.o _))))
 refine wpQuiet_nil ?_;rintro _ ⟨nq,rfl⟩;have a:Hid (Q1 F (w.drewN nq) p L d u N):=ZZ (H.out.drewN nq)
 have aj:Hid (∀ k,k<K->∃ g c y,ao=some ⟨g,0,none⟩∧d.waits[k]?=some c∧ChV F (w.drewN nq) L.ps c y∧(w.drewN nq).cell? ⟨g,k,none⟩=some y∧ZsI d.files.length c∧Zy d (k+1)=chD (Zy d k) c∧g≠L.kept):=ZZ (fun k hk=>by
  obtain⟨g,c,y,t,v,G,h4,h5,h6⟩:=aq.o k hk
  exact⟨g,c,y,t,v,G.keep (fun _ i=>i) (fun _ _=>rfl) (fun _ _ _ _=>rfl),h4,h5,h6⟩)
 have ax:Hid (Qj F w (w.drewN nq)):=ZZ ((Qj.refl _ _).drewN nq);obtain⟨W,az⟩:∃ W,W=w.drewN nq:=⟨_,rfl⟩;rw[<-az] at a aj ax ⊢;clear az ay aq c3 c4 f4 H;go_wp2
 go_loopw[19] (fun vi wr=>∃ k:Nat,vi=.int .i64 (k:Int)∧k<=K∧Hid (Xy wr L.kept (N+k) (fun n=>(look (Zy d k) n).map L.ps))∧Hid (W.grownBy wr (some L.kept))) (fun vi _=>K-(intOf vi).toNat)
 case atStart=>exact⟨0,rfl,Nat.zero_le _,ZZ (by rw[ZlC];exact a.o.rest.kept),ZZ ⟨rfl,rfl,rfl,Nat.le_refl _,fun _ _ _=>rfl⟩⟩
 case round=>
  obtain⟨k,rfl,aW,P,z⟩:=hrel;have ac:=ZZ (a.o.head.keep (z.o.block p a.o.head.lt (fun e=>(a.o.head.neMap a.o.rest.kept) (Option.some.inj e))))
  by_cases aM:k<K
  ·obtain⟨g,c,y,aa,hc,V,O,I,aw,aD⟩:=aj.o k aM
   have ai:Hid (∀ n',look (Zy d (k+1)) n'=chF (look (Zy d k)) c n'):=ZZ (fun n'=>by rw[aw];exact ZcX (av.o.dirs k).rise c (Zmh I) n')
   have V:ChV F wr L.ps c y:=V.keep (fun _ i=>i) (fun _ _=>rfl) (fun j cs i hb=>z.o.block j (a.o.lt j i) (fun e=>by
    rcases hb with hb | hb <;> exact(hb.neMap a.o.rest.kept) (Option.some.inj e)))
   have O:wr.cell? ⟨g,k,none⟩=some y:=(z.o.cell O (fun e=>aD (Option.some.inj e)))
   obtain⟨d3,-⟩:=ac.o.cell 3 rfl;subst aa;clear aw aD hc
   cases c with
   | give n f=>
    obtain⟨b1,b2,B,t,v,-,-⟩:=V;have Y:=ZZ (Zme (f:=f) I.1 wr t v P.o (by omega))
    rw[B] at O;clear B t v
    go_wp2_with fail
    refine Y.o.mono ?_;rintro e S ⟨rfl,C,A⟩;have R:Hid (Xy S L.kept (N+(k+1)) (fun n=>(look (Zy d (k+1)) n).map L.ps)):=ZZ (C.fun fun n' _=>by rw[ai.o])
    have Q:=ZZ (z.o.trans2 A);clear C A;go_wp2;go_roundw
    case rel=>exact⟨k+1,by go_num,by omega,R,Q⟩
    case measure=>simp[intOf];omega
   | move n m f=>
    obtain⟨b1,b2,b3,B,t,v,G,-,-,-⟩:=V;have Y:=ZZ (Zmf (f:=f) I.1 I.2.1 wr t v G P.o (by omega))
    rw[B] at O;clear B t v G
    go_wp2_with fail
    refine Y.o.mono ?_;rintro e S ⟨rfl,C,A⟩;have R:Hid (Xy S L.kept (N+(k+1)) (fun n=>(look (Zy d (k+1)) n).map L.ps)):=ZZ (C.fun fun n' _=>by rw[ai.o])
    have Q:=ZZ (z.o.trans2 A);clear C A;go_wp2;go_roundw
    case rel=>exact⟨k+1,by go_num,by omega,R,Q⟩
    case measure=>simp[intOf];omega
   | take n=>
    obtain⟨b1,B,t,-⟩:=V;have Y:=ZZ (Zmg I wr t P.o );rw[B] at O;clear B t
    go_wp2_with fail
    refine Y.o.mono ?_;rintro e S ⟨rfl,C,A⟩;have R:Hid (Xy S L.kept (N+(k+1)) (fun n=>(look (Zy d (k+1)) n).map L.ps)):=ZZ (C.fun fun n' _=>by rw[ai.o])
    have Q:=ZZ (z.o.trans2 A);clear C A;go_wp2;go_roundw
    case rel=>exact⟨k+1,by go_num,by omega,R,Q⟩
    case measure=>simp[intOf];omega
  ·have aN:Hid (k=K):=ZZ (by omega)
   obtain⟨va,vn,vc,an⟩:=Zer a.o.rest.row;obtain⟨d4,e4⟩:=ac.o.cell 4 rfl;obtain⟨d2,-⟩:=ac.o.cell 2 rfl;have au:wr.cell? ⟨p,4,none⟩=some L.wv:=d4;rw[an] at au;have ad:=ZZ (ac.o.set 4 (.slice none 0 0));have am:Hid (Xy (wr.setCell ⟨p,4,none⟩ (.slice none 0 0)) L.now N (fun n=>(look (Q6 d) n).map L.ps)):=ZZ (a.o.rest.now.keep ((Below.heap_setCell _ _ _ _ (a.o.head.neMap a.o.rest.now).symm).trans (z.o.block _ a.o.rest.now.lt (fun e=>a.o.rest.nk (Option.some.inj e)))))
   have af:Hid (Xy (wr.setCell ⟨p,4,none⟩ (.slice none 0 0)) L.kept (N+k) (fun n=>(look (Zy d k) n).map L.ps)):=ZZ (P.o.keep (Below.heap_setCell _ _ _ _ (a.o.head.neMap a.o.rest.kept).symm))
   obtain⟨D,E⟩:∃ D,D=wr.setCell ⟨p,4,none⟩ (.slice none 0 0):=⟨_,rfl⟩
   have aI:Hid (Qj F w D):=ZZ (by
    rw[E]
    exact(ax.o.trans (Qj.ofGrown z.o (fun j e _=>by obtain rfl:=Option.some.inj e;exact a.o.rest.fk)) (fun _ _ i=>i)).setCell 4 (fun _=>a.o.fh) _)
   have aO:Hid (∀ j,F j->j≠p->j≠L.kept->D.heap[j]?=W.heap[j]?):=ZZ (fun j i t v=>by
    rw[E,Below.heap_setCell _ _ _ _ t]
    exact z.o.block j (a.o.lt j i) (fun e=>v (Option.some.inj e)))
   have aT:Hid (W.heap.size<=D.heap.size):=ZZ (by rw[E];have:=z.o.size;simpa using this)
   rw[<-E] at ad am af;have aC:=ZZ E;clear an d4 E P aj
   go_upto_region 6 with fail
   rw[<-aC.o];clear aC au e4 d2;obtain⟨d2,-⟩:=ad.o.cell 2 rfl
   go_wp2_with(first | (with_reducible refine ZiX D rfl _ rfl L.now N _ rfl am.o ?_);intro x ar Z)
   have ag:=ZZ (ad.o.keep (Z.block p ad.o.lt (fun e=>(a.o.head.neMap a.o.rest.now) (Option.some.inj e))))
   have aF:=ZZ (af.o.keep (Z.block _ af.o.lt (fun e=>a.o.rest.nk (Option.some.inj e).symm)))
   have aS:=ZZ ar;have ak:=ZZ Z;clear ar Z d2;have d2:x.cell? ⟨p,2,none⟩=some (.map (some L.now)):=(ag.o.cell 2 rfl).1;have d3:x.cell? ⟨p,3,none⟩=some (.map (some L.kept)):=(ag.o.cell 3 rfl).1;have aR:N+k<=10000000:=by omega
   have aB:Hid (∀ (X:World) (b n:Nat),Xy X b n (fun n=>(look (Zy d k) n).map L.ps)->Xy X b N (fun n=>(look (Zy d k) n).map L.ps)):=ZZ (fun _ _ _ hm=>(hm.tight (l:=(Zy d k).map Prod.fst) (fun q _ hq=>by
    cases e:look (Zy d k) q with
    | none=>rw[e] at hq;cases hq
    | some f=>exact List.mem_map.2 ⟨(q,f),(Je (av.o.dirs k).rise q f).1 e,rfl⟩)).mono (by
     have t:=Zbn d k;have v:=aQ.o.names;simp only [List.length_map]
     omega))
   have aH:=ZZ (ZvM (w:=x.drew) (aS.o.keep rfl) (aF.o.keep rfl) a.o.rest.nk aR)
   go_upto_region 7 with fail
   go_region_with
    (first
     | (go_at_call 73;refine aH.o.mono ?_;rintro e W4 ⟨rfl,aA,aG⟩;have aJ:=ZZ aA;have J:=ZZ aG;clear aA aG))
   all_goals
    go_wp2;go_end0;have aL:x.heap.size<=W4.heap.size:=J.o.size;have ab:∀ j,j<x.heap.size->j≠L.now->W4.heap[j]?=x.heap[j]?:=fun j hj hn=>J.o.block j hj (fun e=>hn (Option.some.inj e))
    have a2:=ak.o.size;have a0:=aT.o;have aP:p<x.heap.size:=by have:=a.o.head.lt;omega
    have aK:L.kept<x.heap.size:=by have:=a.o.rest.kept.lt;omega
    rw[<-aN.o];refine⟨rfl,a.o.lost (l:=Zy d k) (by omega) (fun j i t v G=>?_) ?_ (aB.o _ _ _ aJ.o) (aB.o _ _ _ (aF.o.keep (ab _ aK (Ne.symm a.o.rest.nk)))),?_⟩
    ·have hj:=a.o.lt j i
     rw[ab j (by omega) v,ak.o.block j (by omega) (fun e=>v (Option.some.inj e))]
     exact aO.o j i t G
    ·exact ag.o.keep (ab p aP (a.o.head.neMap a.o.rest.now))
    ·have o3:Qj F D x:=Qj.ofGrown ak.o (fun j e _=>by obtain rfl:=Option.some.inj e;exact a.o.rest.fn)
     have o4:Qj F x W4:=⟨J.o.os,J.o.tape,J.o.output,aL,fun j hj hn=>ab j hj (fun e=>hn (by rw[e];exact a.o.rest.fn))⟩
     exact(aI.o.trans o3 (fun _ _ i=>i)).trans o4 (fun _ _ i=>i)
theorem Zre (h:Own w 0 v l):∃ ao cap,v=.slice ao l.length cap∧l.length<=cap∧((ao=none∧cap=0)∨∃ g,ao=some ⟨g,0,none⟩):=Ztr h
theorem Q1.cutFile {f k:Nat} (h:Q1 F w p L d u N) (m:f<d.files.length) (q:L.vs f=.slice ao (fl d.files f).b.length cap) (t:k<=(fl d.files f).b.length):
 Q1 F ((w.setCell ⟨L.ps f,1,none⟩ (.int .i64 (k:Int))).setCell ⟨L.ps f,0,none⟩ (.slice ao k cap)) p { L with vs:=fun i=>if i=f then .slice ao k cap else L.vs i } { d with files:=d.files.set f ⟨(fl d.files f).b.take k,k⟩ } u N:=by
 have c:=h.rest.file f m
 have v:∀ g,(L.vs f).ownBlock=some g->g≠L.ps f:=fun g a=>by
  obtain⟨z,x⟩:=J3 c.own a;exact x.ne c.box (by decide)
 have l:(Value.slice ao k cap).ownBlock=(L.vs f).ownBlock:=by rw[q];cases ao <;> rfl
 have y:Own w 0 (.slice ao k cap) ((fl d.files f).b.take k):=by
  have:=c.own;rw[q] at this;exact this.front k t
 refine h.setFile (F':=F) m (fun j _ n _=>by rw[Below.heap_setCell _ _ _ _ n,Below.heap_setCell _ _ _ _ n]) ⟨(c.box.set 1 _).set 0 _,Qh y fun g a=>?_⟩ (.inl l) (fun _ e=>e) (fun g a=>h.rest.fv f m g (by rw[<-l];exact a)) (fun j e=>by simpa using h.lt j e)
 have:=v g (by rw[<-l];exact a)
 rw[Below.heap_setCell _ _ _ _ this,Below.heap_setCell _ _ _ _ this]
theorem Zts (h:n<=1000000000000000):IntKind.i64.wrap (n:Int)=(n:Int):=by
 rw[IntKind.wrap_i64];omega
theorem Zbz {l:Dir} {i:Nat} (h:i<l.length):l.take (i+1)=l.take i++[l[i]]:=List.take_succ_eq_append_getElem h
theorem Zfn {l:Dir} (h:ZbC l) {i:Nat} (b:i<l.length):∀ p ∈ l.take i,p.2≠l[i].2:=by
 intro p c;have a:ZbC (l.take (i+1)):=List.Pairwise.sublist (List.take_sublist _ _) h;rw[Zbz b] at a;exact(List.pairwise_append.1 a).2.2 p c _ (List.mem_singleton.2 rfl)
theorem Zmm (keep:List Int) {l:Dir} (h:ZbC l) {i:Nat} (a:i<l.length) (fs:List Fl):Qu keep (l.take (i+1)) 0 fs=(Qu keep (l.take i) 0 fs).set l[i].2 (Zjv (fl fs l[i].2) (Zgl keep i)):=by
 rw[Zbz a,ZgM,Zbi keep _ 0 fs _ (Zfn h a)];have:(l.take i).length=i:=by rw[length_take];omega
 rw[this,Nat.zero_add]
theorem Zrf (keep:List Int) {l:Dir} (h:ZbC l) {i:Nat} (a:i<l.length) {fs:List Fl} (c:l[i].2<fs.length) (g:∀ x ∈ fs,x.k<=x.b.length):
 Y1 (Qu keep (l.take (i+1)) 0 fs) (l.take (i+1))=Y1 (Qu keep (l.take i) 0 fs) (l.take i)+(Zjv (fl fs l[i].2) (Zgl keep i)).k:=by
 rw[Zmm keep h a];have d:Y1 ((Qu keep (l.take i) 0 fs).set l[i].2 (Zjv (fl fs l[i].2) (Zgl keep i))) (l.take i)=Y1 (Qu keep (l.take i) 0 fs) (l.take i):=ZkG fun p j=>by rw[Zab (fun e=>Zfn h a p j e.symm)]
 have f:(fl ((Qu keep (l.take i) 0 fs).set l[i].2 (Zjv (fl fs l[i].2) (Zgl keep i))) l[i].2).b.length=(Zjv (fl fs l[i].2) (Zgl keep i)).k:=by
  rw[ZbR (by rw[Jj];exact c),ZpF (ZgN g _)]
 rw[Zbz a,ZdJ,d,Zai,ZgC,f];rfl
theorem ZcH (keep:List Int):∀ (l:Dir) (i:Nat) (fs:List Fl),(∀ x ∈ fs,x.b.length<=T)->(∀ p ∈ l,p.2<fs.length)->∀ x ∈ Qu keep l i fs,x.b.length<=T
 | [],_,_,h,_=>h
 | p::l,i,fs,h,hl=>by
  rw[Qu];refine ZcH keep l (i+1) _ (fun x a=>?_) (fun q c=>by rw[List.length_set];exact hl q (List.mem_cons_of_mem _ c))
  rcases List.mem_or_eq_of_mem_set a with a | rfl
  ·exact h x a
  ·have:=h _ (ZbE (hl p (List.mem_cons_self ..)))
   simp only [Zjv,length_take];omega
theorem ZkJ (vk:Value) (keep:List Int) (w:World) (h:Q1 F w p L d u N) (hw:d.waits=[]) (aw:OkD d) (aH:Bnd d N T) (hN:N<=1000000) (hT:T<=1000000000) (hr:RdI w vk keep) (aJ:keep=[]∨∀ k,vk.ownBlock=some k->¬ F k) (bn:keep.length<=1000000000):
 Calls prog 32 #[ptr p,vk] w fun e w'=>e=.returned (.tuple #[])∧(∃ L',Q1 F w' p L' { d with files:=Qu keep d.kept 0 d.files } (Y1 (Qu keep d.kept 0 d.files) d.kept:Nat) N)∧Qj F w w':=by
 have H:=ZZ h;have aR:=ZZ aw;have aX:=ZZ aH;have a1:=ZZ hr;have a6:=ZZ aJ;obtain⟨⟨-,c1,-,-,-,-⟩,f1,-⟩:=h.cells;obtain⟨ka,kc,rfl,-⟩:=hr;obtain⟨l,hl⟩:∃ l,l=d.kept:=⟨_,rfl⟩;have aW:Hid (Q6 d=l):=ZZ (by unfold Q6;rw[hw,hl];rfl)
 have aM:Hid (l.length<=N):=ZZ (by have:=aH.names;rw[hl];omega)
 have Y:Hid (OkL d.files.length l):=ZZ (by rw[hl];exact aw.kept)
 have bj:=ZZ hl;have ae:=ZZ (h.setHead 1 (.int .i64 0) (d':=d) (u':=0) ⟨rfl,rfl,rfl⟩ rfl);have aB:Hid (Qj F w (w.setCell ⟨p,1,none⟩ (.int .i64 0))):=ZZ ((Qj.refl _ _).setCell 1 (fun _=>h.fh) _)
 obtain⟨W1,aI⟩:∃ W1,W1=w.setCell ⟨p,1,none⟩ (.int .i64 0):=⟨_,rfl⟩;rw[<-aI] at ae aB;have a3:=ZZ (Zet W1 ae.o aw hN);have aQ:=ZZ (a1.o.onlyE aB.o aJ);have aZ:=ZZ aI;clear aI h aw aH aJ hl hw
 go_enter func32,ntmps32
 go_upto_region 1 with fail
 rw[<-aZ.o];clear aZ c1 f1
 go_wp2_with fail
 refine a3.o.mono ?_;rintro e W2 ⟨vn,rfl,az,ap⟩;rw[aW.o] at az
 have ba:Hid (∀ x ∈ l.map Prod.fst,I64 x):=ZZ (fun x hx=>by
  obtain⟨q,hq,rfl⟩:=List.mem_map.1 hx
  exact Zcc (Y.o.may q hq).1)
 have a0:=ZZ (az.rd ba.o)
 have bf:Hid (∀ k,vn.ownBlock=some k->¬ F k):=ZZ (fun k hk hf=>by
  have E:=(World.ownsRow.lt az k hk).1;have M:=ae.o.lt k hf
  omega)
 have a4:Hid (Q1 F W2 p L d 0 N):=ZZ (ae.o.keep (fun k hf=>ap.block k (ae.o.lt k hf)) ap.size)
 have a5:Hid (Qj F w W2):=ZZ (aB.o.trans (G:=fun _=>False) (Qj.ofBelow ap) (fun _ _ hf=>hf.elim))
 have a9:=ZZ (aQ.o.below ap zL);obtain⟨na,nc,rfl,-⟩:=a0.o;clear az ap a3 aQ a1 ae aB H;have bg:(l.map Prod.fst).length=l.length:=List.length_map ..;rw[bg];go_wp2
 go_loopw[14] (fun vi wr=>∃ i:Nat,vi=.int .i64 (i:Int)∧i<=l.length∧∃ z,Hid (Q1 F wr p z { d with files:=Qu keep (l.take i) 0 d.files } (Y1 (Qu keep (l.take i) 0 d.files) (l.take i):Nat) N)∧Hid (Qj F W2 wr)) (fun vi _=>l.length-(intOf vi).toNat)
 case atStart=>exact⟨0,rfl,Nat.zero_le _,L,by simpa[Qu,Y1] using a4,ZZ (Qj.refl _ _)⟩
 case round=>
  obtain⟨i,rfl,bx,z,D,ar⟩:=hrel;by_cases O:i<l.length
  case neg=>
   have hi:i=l.length:=by omega
   subst hi;rw[List.take_length,bj.o] at D;go_wp2;go_end0;exact⟨rfl,⟨z,D.o⟩,a5.o.trans ar.o (fun _ _ hf=>hf)⟩
  obtain⟨n,f,ab⟩:∃ n f,l[i]=(n,f):=⟨_,_,rfl⟩;have ay:(n,f) ∈ l:=by rw[<-ab];exact List.getElem_mem O
  have aF:f<d.files.length:=(Y.o.may _ ay).2;have aL:I64 n:=Zcc (Y.o.may _ ay).1;have aV:(Qu keep (l.take i) 0 d.files).length=d.files.length:=Jj _ _ _ _;obtain⟨x,hx⟩:∃ x,x=fl d.files f:=⟨_,rfl⟩
  have aj:fl (Qu keep (l.take i) 0 d.files) f=x:=by
   rw[hx];refine Zbi keep _ 0 _ _ fun q hq=>?_
   have:=Zfn Y.o.apart O q hq;rw[ab] at this;exact this
  have aa:Hid (ZlZ wr (z.ps f) (z.vs f) x):=ZZ (by
   have:=D.o.rest.file f (by show f<(Qu keep (l.take i) 0 d.files).length;omega)
   rw[<-aj]
   exact this)
  have bd:x.k<=x.b.length:=by rw[hx];exact ZgN aR.o.keep f
  have bb:x.b.length<=T:=by rw[hx];exact aX.o.bytes _ (ZbE aF)
  obtain⟨ao,cap,ax,be,bk⟩:=Zre aa.o.own;have B:wr.cell? ⟨z.ps f,0,none⟩=some (.slice ao x.b.length cap):=by rw[<-ax];exact(aa.o.box.cell 0 rfl).1
  have y0:wr.frozen? ⟨z.ps f,0,none⟩=false:=(aa.o.box.cell 0 rfl).2;have g1:wr.cell? ⟨z.ps f,1,none⟩=some (.int .i64 (x.k:Int)):=(aa.o.box.cell 1 rfl).1;have y1:wr.frozen? ⟨z.ps f,1,none⟩=false:=(aa.o.box.cell 1 rfl).2;obtain⟨U,hU⟩:∃ U:Nat,U=Y1 (Qu keep (l.take i) 0 d.files) (l.take i):=⟨_,rfl⟩
  have bv:U<=1000000000000000:=by
   rw[hU];have E:=Zoc (T:=T) (fs:=Qu keep (l.take i) 0 d.files) (ZcH keep _ 0 _ aX.o.bytes (fun q hq=>(Y.o.may q (List.mem_of_mem_take hq)).2)) (l.take i) (fun q hq=>by rw[aV];exact(Y.o.may q (List.mem_of_mem_take hq)).2)
   have M:(l.take i).length<=N:=by have:=aM.o;rw[length_take];omega
   have h3:(l.take i).length*T<=1000000*1000000000:=Nat.mul_le_mul (by omega) hT
   omega
  rw[<-hU] at D;have k1:wr.cell? ⟨p,1,none⟩=some (.int .i64 (U:Int)):=D.o.cells.1.2.1;have j1:wr.frozen? ⟨p,1,none⟩=false:=D.o.cells.2.1;have k2:wr.cell? ⟨p,2,none⟩=some (.map (some z.now)):=D.o.cells.1.2.2.1
  have aG:(Instr.lookup 65 (.map (some z.now)) (.int .i64 n) false).run prog wr=.ok (.pointer (some ⟨z.ps f,0,none⟩)) wr:=by
   have E:=D.o.rest.now.look1 aL
   have M:look (Q6 { d with files:=Qu keep (l.take i) 0 d.files }) n=some f:=by
    show look (Q6 d) n=some f;rw[aW.o];exact(Je Y.o.rise n f).2 ay
   rw[M] at E;exact E
  obtain⟨nb,ai,rfl,aK⟩:∃ nb ai,na=some ⟨nb,ai,none⟩∧wr.cell? ⟨nb,ai+i,none⟩=some (.int .i64 n):=by
   have E:=a0.o.only ar.o bf.o;obtain⟨a',c',an,_,_,_,_,h6⟩:=E;simp only [Value.slice.injEq] at an;obtain⟨rfl,_,rfl⟩:=an;rcases h6 with h6 | ⟨nb,ai,rfl,h7⟩
   ·have:l=[]:=by simpa using h6
    rw[this] at O;simp at O
   ·refine⟨nb,ai,rfl,?_⟩
    have h8:=h7 i (by simpa using O)
    rw[h8];simp[List.getD,O,ab]
  obtain⟨A,hA⟩:∃ A,A=Zgl keep i:=⟨_,rfl⟩;obtain⟨m,hm⟩:∃ m,m=x.b.length-x.k:=⟨_,rfl⟩;have aU:(x.b.length:Int)-(x.k:Int)=(m:Int):=by omega
  obtain⟨sh,aC⟩:∃ sh,sh=Zx A m:=⟨_,rfl⟩;have bc:sh<=m:=by rw[aC];exact Zea _ _
  obtain⟨y,aP⟩:∃ y,y=x.k+sh:=⟨_,rfl⟩;have a8:(x.k:Int)+(sh:Int)=(y:Int):=by omega
  have a2:y<=x.b.length:=by omega
  have ad:Hid (∀ W,Calls prog 72 #[.int .i64 A,.int .i64 (m:Int)] W fun e w'=>e=.returned (.int .i64 (sh:Int))∧w'=W):=ZZ (fun W=>by rw[aC];exact Zmc A m (by omega) W)
  have aO:Hid (Zjv x A=⟨x.b.take y,y⟩):=ZZ (by rw[aP,aC,hm];rfl)
  have aD:Hid (Q1 F (((wr.setCell ⟨z.ps f,1,none⟩ (.int .i64 (y:Int))).setCell ⟨z.ps f,0,none⟩ (.slice ao y cap)).setCell ⟨p,1,none⟩ (.int .i64 ((U:Int)+(y:Int)))) p { z with vs:=fun j=>if j=f then .slice ao y cap else z.vs j } { d with files:=Qu keep (l.take (i+1)) 0 d.files } (Y1 (Qu keep (l.take (i+1)) 0 d.files) (l.take (i+1)):Nat) N):=ZZ (by
   have E:=D.o.cutFile (f:=f) (k:=y) (ao:=ao) (cap:=cap) (by show f<(Qu keep (l.take i) 0 d.files).length;omega) (by show z.vs f=.slice ao (fl (Qu keep (l.take i) 0 d.files) f).b.length cap;rw[aj];exact ax) (by show y<=(fl (Qu keep (l.take i) 0 d.files) f).b.length;rw[aj];exact a2)
   have M:=Zrf keep Y.o.apart O (fs:=d.files) (by rw[ab];exact aF) aR.o.keep
   have h3:=Zmm keep Y.o.apart O d.files;rw[ab,<-hx,<-hA,aO.o] at M h3;rw[M,h3,<-hU]
   dsimp only at E
   rw[aj] at E;have e1:((U+y:Nat):Int)=(U:Int)+(y:Int):=by omega
   show Q1 F _ p _ _ ((U+y:Nat):Int) N;rw[e1]
   exact E.setHead 1 _ ⟨rfl,rfl,rfl⟩ rfl)
  have K:Hid (Qj F W2 (((wr.setCell ⟨z.ps f,1,none⟩ (.int .i64 (y:Int))).setCell ⟨z.ps f,0,none⟩ (.slice ao y cap)).setCell ⟨p,1,none⟩ (.int .i64 ((U:Int)+(y:Int))))):=ZZ (((ar.o.setCell 1 (fun _=>D.o.rest.fp f (by show f<(Qu keep (l.take i) 0 d.files).length;omega)) _).setCell 0 (fun _=>D.o.rest.fp f (by show f<(Qu keep (l.take i) 0 d.files).length;omega)) _).setCell 1 (fun _=>D.o.fh) _)
  have av:Hid (p≠z.ps f):=ZZ (D.o.head.ne aa.o.box (by decide))
  obtain⟨P,hP⟩:∃ P,P=z.ps f:=⟨_,rfl⟩;have ag:Hid (Bk 117 wr (z.ps f) #[.slice ao x.b.length cap,.int .i64 (x.k:Int)]):=ZZ (by rw[<-ax];exact aa.o.box)
  obtain⟨DI,aT⟩:∃ DI,DI={ d with files:=Qu keep (l.take i) 0 d.files }:=⟨_,rfl⟩
  have aY:Hid (Bk 69 wr p (Zfm z DI (U:Int))):=ZZ (by rw[aT];exact D.o.head)
  clear aT;rw[<-hP] at B y0 g1 y1 aG aD K av ag;obtain⟨R,aS⟩:∃ R,R=x.b.length:=⟨_,rfl⟩;obtain⟨xk,aN⟩:∃ xk,xk=x.k:=⟨_,rfl⟩;rw[<-aS] at B aU a2 bb be ag;rw[<-aN] at g1 aU a8 ag;have bm:y<=cap:=by omega
  have HA:=ZZ hA;have bi:=ZZ (a9.o.onlyE ar.o a6.o);clear ab ay aF aL aV hx aj bd ax hU hA hm aC bc aP hP aS aN aa D ar aO;have aA:=ZZ O;have bt:i<=1000000:=by have:=aM.o;omega
  have br:IntKind.i64.wrap (m:Int)=(m:Int):=Zts (by omega)
  have bq:IntKind.i64.wrap (y:Int)=(y:Int):=Zts (by omega)
  have af:Hid ((wr.setCell ⟨P,1,none⟩ (.int .i64 (y:Int))).cell? ⟨P,0,none⟩=some (.slice ao R cap)):=ZZ (by
   rw[World.cell?_setCell_other _ _ _ _ (by intro h;injection h with _ h;cases h)]
   exact B)
  by_cases ac:keep.length=0
  ·have e0:A=0:=by rw[HA.o];exact if_pos ac
   subst e0;have bp:decide ((keep.length:Int)>0)=false:=decide_eq_false (by omega)
   have bw:decide (0<keep.length)=false:=decide_eq_false (by omega)
   clear ac
   go_upto_region 7 with fail
   clear aK aG k2
   go_cut[] (fun wd=>Hid (∃ q,wd=(wr.setCell ⟨P,1,none⟩ (.int .i64 (y:Int))).drewN q))
   case first=>
    refine wp_region_held_drew (S:=fun w'=>w'.cell? ⟨P,0,none⟩=some (.slice ao R cap)) (by kernel_rfl) (by exact B) (fun C=>?_)
    refine wpAnyH_take (i:=0) (v:=?_) rfl (by kernel_rfl) (by kernel_rfl) (by kernel_rfl) (fun _ _ _ h=>h) (Or.inl ⟨by rfl,?_⟩) (by assumption) ?_
    rotate_left
    ·intro c g
     go_simp
     try with_reducible rfl
    simp only [Act.put,getElem_toArray,getElem_cons_zero,setIfInBounds_toArray,set_cons_zero,set_cons_succ];refine wpAnyH_take (i:=1) (v:=?_) rfl (by kernel_rfl) (by kernel_rfl) (by kernel_rfl) (fun _ _ _ h=>h) (Or.inl ⟨by rfl,?_⟩) (by assumption) ?_
    rotate_left
    ·intro c g
     go_simp
     try with_reducible rfl
    simp only [Act.put,getElem_toArray,getElem_cons_zero,getElem_cons_succ,setIfInBounds_toArray,set_cons_zero,set_cons_succ];refine wpAnyH_take (i:=2) (v:=?_) rfl (by kernel_rfl) (by kernel_rfl) (by kernel_rfl) (fun _ _ _ h=>h) (Or.inl ⟨by rfl,?_⟩) (by assumption) ?_
    rotate_left
    ·intro c g
     go_simp
     try with_reducible rfl
    simp only [Act.put,getElem_toArray,getElem_cons_zero,getElem_cons_succ,setIfInBounds_toArray,set_cons_zero,set_cons_succ];refine wpAnyH_take (i:=4) (v:=?_) rfl (by kernel_rfl) (by kernel_rfl) (by kernel_rfl) (fun _ _ _ h=>h) (Or.inl ⟨by rfl,?_⟩) (by assumption) ?_
    rotate_left
    ·intro c g
     go_simp
     try with_reducible rfl
    simp only [Act.put,getElem_toArray,getElem_cons_zero,getElem_cons_succ,setIfInBounds_toArray,set_cons_zero,set_cons_succ];refine wpAnyH_take (i:=5) (v:=?_) rfl (by kernel_rfl) (by kernel_rfl) (by kernel_rfl) (fun _ _ _ h=>h) (Or.inl ⟨by rfl,?_⟩) (by assumption) ?_
    rotate_left
    ·intro c g
     go_simp
     try with_reducible rfl
    simp only [Act.put,getElem_toArray,getElem_cons_zero,getElem_cons_succ,setIfInBounds_toArray,set_cons_zero,set_cons_succ];refine wpAnyH_take (i:=6) (v:=?_) rfl (by kernel_rfl) (by kernel_rfl) (by kernel_rfl) (fun _ _ _ h=>h) (Or.inl ⟨by rfl,?_⟩) (by assumption) ?_
    rotate_left
    ·intro c g
     go_simp
     try with_reducible rfl
    simp only [Act.put,getElem_toArray,getElem_cons_zero,getElem_cons_succ,setIfInBounds_toArray,set_cons_zero,set_cons_succ];refine wpAnyH_take (i:=7) (v:=?_) rfl (by kernel_rfl) (by kernel_rfl) (by kernel_rfl) (fun _ _ _ h=>h) (Or.inl ⟨by rfl,?_⟩) (by assumption) ?_
    rotate_left
    ·intro c g
     go_simp
     try with_reducible rfl
    simp only [Act.put,getElem_toArray,getElem_cons_zero,getElem_cons_succ,setIfInBounds_toArray,set_cons_zero,set_cons_succ];refine wpAnyH_take (i:=8) (v:=?_) rfl (by kernel_rfl) (by kernel_rfl) (by kernel_rfl) (fun _ _ _ h=>h) (Or.inl ⟨by rfl,?_⟩) (by assumption) ?_
    rotate_left
    ·intro c g
     go_simp
     try with_reducible rfl
    simp only [Act.put,getElem_toArray,getElem_cons_zero,getElem_cons_succ,setIfInBounds_toArray,set_cons_zero,set_cons_succ];refine wpAnyH_take (i:=9) (v:=?_) rfl (by kernel_rfl) (by kernel_rfl) (by kernel_rfl) (fun _ _ _ h=>h) (Or.inl ⟨by rfl,?_⟩) (by assumption) ?_
    rotate_left
    ·intro c g
     go_simp
     try with_reducible rfl
    simp only [Act.put,getElem_toArray,getElem_cons_zero,getElem_cons_succ,setIfInBounds_toArray,set_cons_zero,set_cons_succ];refine wpAnyH_take (i:=10) (v:=?_) rfl (by kernel_rfl) (by kernel_rfl) (by kernel_rfl) (fun _ _ _ h=>h) (Or.inl ⟨by rfl,?_⟩) (by assumption) ?_
    rotate_left
    ·intro c g
     go_simp
     try with_reducible rfl
    simp only [Act.put,getElem_toArray,getElem_cons_zero,getElem_cons_succ,setIfInBounds_toArray,set_cons_zero,set_cons_succ];refine wpAnyH_take (i:=11) (v:=?_) rfl (by kernel_rfl) (by kernel_rfl) (by kernel_rfl) (fun _ _ _ h=>h) (Or.inl ⟨by rfl,?_⟩) (by assumption) ?_
    rotate_left
    ·intro c g
     go_simp
     try with_reducible rfl
    simp only [Act.put,getElem_toArray,getElem_cons_zero,getElem_cons_succ,setIfInBounds_toArray,set_cons_zero,set_cons_succ];refine wpAnyH_take (i:=12) (v:=?_) rfl (by kernel_rfl) (by kernel_rfl) (by kernel_rfl) (fun _ _ _ h=>h) (Or.inl ⟨by rfl,?_⟩) (by assumption) ?_
    rotate_left
    ·intro c g
     go_simp
     try with_reducible rfl
    simp only [Act.put,getElem_toArray,getElem_cons_zero,getElem_cons_succ,setIfInBounds_toArray,set_cons_zero,set_cons_succ];refine wpAnyH_ready (rs:=[3,13]) (by kernel_rfl) (by simp) ?_
    refine AllReadyH.cons rfl (fun t a=>?_) (AllReadyH.cons rfl (fun t a=>?_) AllReadyH.nil)
    ·go_simp
     refine a.out _ _ (by exact B) (fun C=>?_)
     clear a t;refine wpAnyH_ready (rs:=[13]) (by kernel_rfl) (by simp) ?_
     refine AllReadyH.cons rfl (fun t a=>?_) AllReadyH.nil
     go_simp
     refine a.out _ _ (by exact B) (fun C=>?_)
     clear a t;refine wpAnyH_take (i:=14) (v:=?_) rfl (by kernel_rfl) (by kernel_rfl) (by kernel_rfl) (fun _ _ _ h=>h) (Or.inl ⟨by rfl,?_⟩) (by assumption) ?_
     rotate_left
     ·intro c g
      go_simp
      try with_reducible rfl
     simp only [Act.put,getElem_toArray,getElem_cons_zero,getElem_cons_succ,setIfInBounds_toArray,set_cons_zero,set_cons_succ];refine wpAnyH_ready (rs:=[15]) (by kernel_rfl) (by simp) ?_
     refine AllReadyH.cons rfl (fun t a=>?_) AllReadyH.nil
     go_simp
     go_wp2_with((go_at_call 72;refine(ad.o _).mono ?_;rintro e w5 ⟨rfl,rfl⟩))
     refine a.out _ _ (by exact B) (fun C=>?_)
     clear a t;refine wpAnyH_take (i:=16) (v:=?_) rfl (by kernel_rfl) (by kernel_rfl) (by kernel_rfl) (fun _ _ _ h=>h) (Or.inl ⟨by rfl,?_⟩) (by assumption) ?_
     rotate_left
     ·intro c g
      go_simp
      try with_reducible rfl
     simp only [Act.put,getElem_toArray,getElem_cons_zero,getElem_cons_succ,setIfInBounds_toArray,set_cons_zero,set_cons_succ];refine wpAnyH_take (i:=17) (v:=?_) rfl (by kernel_rfl) (by kernel_rfl) (by kernel_rfl) (fun _ _ _ h=>h) (Or.inl ⟨by rfl,?_⟩) (by assumption) ?_
     rotate_left
     ·intro c g
      go_simp
      try with_reducible rfl
     simp only [Act.put,getElem_toArray,getElem_cons_zero,getElem_cons_succ,setIfInBounds_toArray,set_cons_zero,set_cons_succ];refine wpAnyH_take (i:=18) (v:=?_) rfl (by kernel_rfl) (by kernel_rfl) (by kernel_rfl) (fun _ _ _ h=>h) (Or.inl ⟨by rfl,?_⟩) (by assumption) ?_
     rotate_left
     ·intro c g
      go_simp
      try with_reducible rfl
     simp only [Act.put,getElem_toArray,getElem_cons_zero,getElem_cons_succ,setIfInBounds_toArray,set_cons_zero,set_cons_succ];refine wpAnyH_ready (rs:=[19]) (by kernel_rfl) (by simp) ?_
     refine AllReadyH.cons rfl (fun t a=>?_) AllReadyH.nil
     go_simp
     refine a.out _ _ (by exact af.o) (fun C=>?_)
     clear a t;refine wpAnyH_done (by kernel_rfl) ?_ _
     go_wp2_with fail
     go_meet
     exact ZZ ⟨1,rfl⟩
    ·go_simp
     refine a.out _ _ (by exact B) (fun C=>?_)
     clear a t;refine wpAnyH_take (i:=14) (v:=?_) rfl (by kernel_rfl) (by kernel_rfl) (by kernel_rfl) (fun _ _ _ h=>h) (Or.inl ⟨by rfl,?_⟩) (by assumption) ?_
     rotate_left
     ·intro c g
      go_simp
      try with_reducible rfl
     simp only [Act.put,getElem_toArray,getElem_cons_zero,getElem_cons_succ,setIfInBounds_toArray,set_cons_zero,set_cons_succ];refine wpAnyH_ready (rs:=[3,15]) (by kernel_rfl) (by simp) ?_
     refine AllReadyH.cons rfl (fun t a=>?_) (AllReadyH.cons rfl (fun t a=>?_) AllReadyH.nil)
     ·go_simp
      refine a.out _ _ (by exact B) (fun C=>?_)
      clear a t;refine wpAnyH_ready (rs:=[15]) (by kernel_rfl) (by simp) ?_
      refine AllReadyH.cons rfl (fun t a=>?_) AllReadyH.nil
      go_simp
      go_wp2_with((go_at_call 72;refine(ad.o _).mono ?_;rintro e w5 ⟨rfl,rfl⟩))
      refine a.out _ _ (by exact B) (fun C=>?_)
      clear a t;refine wpAnyH_take (i:=16) (v:=?_) rfl (by kernel_rfl) (by kernel_rfl) (by kernel_rfl) (fun _ _ _ h=>h) (Or.inl ⟨by rfl,?_⟩) (by assumption) ?_
      rotate_left
      ·intro c g
       go_simp
       try with_reducible rfl
      simp only [Act.put,getElem_toArray,getElem_cons_zero,getElem_cons_succ,setIfInBounds_toArray,set_cons_zero,set_cons_succ];refine wpAnyH_take (i:=17) (v:=?_) rfl (by kernel_rfl) (by kernel_rfl) (by kernel_rfl) (fun _ _ _ h=>h) (Or.inl ⟨by rfl,?_⟩) (by assumption) ?_
      rotate_left
      ·intro c g
       go_simp
       try with_reducible rfl
      simp only [Act.put,getElem_toArray,getElem_cons_zero,getElem_cons_succ,setIfInBounds_toArray,set_cons_zero,set_cons_succ];refine wpAnyH_take (i:=18) (v:=?_) rfl (by kernel_rfl) (by kernel_rfl) (by kernel_rfl) (fun _ _ _ h=>h) (Or.inl ⟨by rfl,?_⟩) (by assumption) ?_
      rotate_left
      ·intro c g
       go_simp
       try with_reducible rfl
      simp only [Act.put,getElem_toArray,getElem_cons_zero,getElem_cons_succ,setIfInBounds_toArray,set_cons_zero,set_cons_succ];refine wpAnyH_ready (rs:=[19]) (by kernel_rfl) (by simp) ?_
      refine AllReadyH.cons rfl (fun t a=>?_) AllReadyH.nil
      go_simp
      refine a.out _ _ (by exact af.o) (fun C=>?_)
      clear a t;refine wpAnyH_done (by kernel_rfl) ?_ _
      go_wp2_with fail
      go_meet
      exact ZZ ⟨1,rfl⟩
     ·go_simp
      go_wp2_with((go_at_call 72;refine(ad.o _).mono ?_;rintro e w5 ⟨rfl,rfl⟩))
      refine a.out _ _ (by exact B) (fun C=>?_)
      clear a t;refine wpAnyH_ready (rs:=[3]) (by kernel_rfl) (by simp) ?_
      refine AllReadyH.cons rfl (fun t a=>?_) AllReadyH.nil
      go_simp
      refine a.out _ _ (by exact B) (fun C=>?_)
      clear a t;refine wpAnyH_take (i:=16) (v:=?_) rfl (by kernel_rfl) (by kernel_rfl) (by kernel_rfl) (fun _ _ _ h=>h) (Or.inl ⟨by rfl,?_⟩) (by assumption) ?_
      rotate_left
      ·intro c g
       go_simp
       try with_reducible rfl
      simp only [Act.put,getElem_toArray,getElem_cons_zero,getElem_cons_succ,setIfInBounds_toArray,set_cons_zero,set_cons_succ];refine wpAnyH_take (i:=17) (v:=?_) rfl (by kernel_rfl) (by kernel_rfl) (by kernel_rfl) (fun _ _ _ h=>h) (Or.inl ⟨by rfl,?_⟩) (by assumption) ?_
      rotate_left
      ·intro c g
       go_simp
       try with_reducible rfl
      simp only [Act.put,getElem_toArray,getElem_cons_zero,getElem_cons_succ,setIfInBounds_toArray,set_cons_zero,set_cons_succ];refine wpAnyH_take (i:=18) (v:=?_) rfl (by kernel_rfl) (by kernel_rfl) (by kernel_rfl) (fun _ _ _ h=>h) (Or.inl ⟨by rfl,?_⟩) (by assumption) ?_
      rotate_left
      ·intro c g
       go_simp
       try with_reducible rfl
      simp only [Act.put,getElem_toArray,getElem_cons_zero,getElem_cons_succ,setIfInBounds_toArray,set_cons_zero,set_cons_succ];refine wpAnyH_ready (rs:=[19]) (by kernel_rfl) (by simp) ?_
      refine AllReadyH.cons rfl (fun t a=>?_) AllReadyH.nil
      go_simp
      refine a.out _ _ (by exact af.o) (fun C=>?_)
      clear a t;refine wpAnyH_done (by kernel_rfl) ?_ _
      go_wp2_with fail
      go_meet
      exact ZZ ⟨1,rfl⟩
   case rest=>
    obtain⟨q7,V⟩:=hcut.out;have I:Hid (Bk 117 wc P #[.slice ao R cap,.int .i64 (y:Int)]):=ZZ (by rw[V];exact ag.o.set 1 _)
    have ak:Hid (Bk 69 wc p (Zfm z DI (U:Int))):=ZZ (by rw[V];exact aY.o.other P 1 _ av.o)
    have Z:=ZZ V;have B:wc.cell? ⟨P,0,none⟩=some (.slice ao R cap):=(I.o.cell 0 rfl).1;have y0:wc.frozen? ⟨P,0,none⟩=false:=(I.o.cell 0 rfl).2;have g1:wc.cell? ⟨P,1,none⟩=some (.int .i64 (y:Int)):=(I.o.cell 1 rfl).1;clear V hcut;obtain⟨W7,al⟩:∃ W7,W7=wc:=⟨_,rfl⟩;rw[<-al] at I ak Z B y0 g1 ⊢;clear al
    go_upto_region 8 with fail
    go_cut[] (fun wd=>Hid (∃ q,wd=(W7.setCell ⟨P,0,none⟩ (.slice ao y cap)).drewN q))
    case first=>
     go_region
     all_goals
      go_wp2_with fail
      go_meet
      exact ZZ ⟨1,rfl⟩
    case rest=>
     obtain⟨q8,X⟩:=hcut.out;have aE:Hid (Bk 117 wc P #[.slice ao y cap,.int .i64 (y:Int)]):=ZZ (by rw[X];exact I.o.set 0 _)
     have aq:Hid (Bk 69 wc p (Zfm z DI (U:Int))):=ZZ (by rw[X];exact ak.o.other P 0 _ av.o)
     have Q:=ZZ X;have E:wc.cell? ⟨P,1,none⟩=some (.int .i64 (y:Int)):=(aE.o.cell 1 rfl).1;have M:wc.cell? ⟨p,1,none⟩=some (.int .i64 (U:Int)):=(aq.o.cell 1 rfl).1;have h3:wc.frozen? ⟨p,1,none⟩=false:=(aq.o.cell 1 rfl).2;clear X hcut B y0 g1;obtain⟨W8,am⟩:∃ W8,W8=wc:=⟨_,rfl⟩;rw[<-am] at Q E M h3 ⊢;clear am
     go_upto_region 9 with fail
     go_region
     all_goals
      go_wp2;go_roundw
      case rel=>
       refine⟨i+1,by go_num,by have:=aA.o;omega,_,ZZ (aD.o.keep (w':=(W8.setCell ⟨p,1,none⟩ (.int .i64 ((U:Int)+(y:Int)))).drew) (fun k _=>?_) ?_),ZZ ?_⟩
       ·rw[Q.o,Z.o]
        rfl
       ·rw[Q.o,Z.o]
        exact Nat.le_refl _
       ·rw[Q.o,Z.o]
        exact⟨K.o.os,K.o.tape,K.o.output,K.o.size,K.o.block⟩
      case measure=>have:=aA.o;simp[intOf];omega
  ·obtain⟨J,hJ⟩:∃ J,J=i % keep.length:=⟨_,rfl⟩
   have a7:J<keep.length:=by rw[hJ];exact Nat.mod_lt _ (by omega)
   have bA:(i:Int) % (keep.length:Int)=(J:Int):=by rw[hJ];omega
   have eA:keep.getD J 0=A:=by rw[HA.o,hJ];exact(if_neg ac).symm
   obtain⟨kb,au,rfl,bu⟩:∃ kb au,ka=some ⟨kb,au,none⟩∧wr.cell? ⟨kb,au+J,none⟩=some (.int .i64 A):=by
    obtain⟨a',c',an,_,_,_,_,h6⟩:=bi.o;simp only [Value.slice.injEq] at an;obtain⟨rfl,_,rfl⟩:=an;rcases h6 with h6 | ⟨kb,au,rfl,h7⟩
    ·rw[h6] at ac
     simp at ac
    ·exact⟨kb,au,rfl,by rw[h7 J a7,eA]⟩
   have bo:0<keep.length:=by omega
   have bz:(0:Int)<(keep.length:Int):=by omega
   clear eA hJ ac
   go_upto_region 7 with fail
   clear aK aG k2
   go_cut[] (fun wd=>Hid (∃ q,wd=(wr.setCell ⟨P,1,none⟩ (.int .i64 (y:Int))).drewN q))
   case first=>
    refine wp_region_held_drew (S:=fun w'=>w'.cell? ⟨P,0,none⟩=some (.slice ao R cap)) (by kernel_rfl) (by exact B) (fun C=>?_)
    refine wpAnyH_take (i:=0) (v:=?_) rfl (by kernel_rfl) (by kernel_rfl) (by kernel_rfl) (fun _ _ _ h=>h) (Or.inl ⟨by rfl,?_⟩) (by assumption) ?_
    rotate_left
    ·intro c g
     go_simp
     try with_reducible rfl
    simp only [Act.put,getElem_toArray,getElem_cons_zero,setIfInBounds_toArray,set_cons_zero,set_cons_succ];refine wpAnyH_take (i:=1) (v:=?_) rfl (by kernel_rfl) (by kernel_rfl) (by kernel_rfl) (fun _ _ _ h=>h) (Or.inl ⟨by rfl,?_⟩) (by assumption) ?_
    rotate_left
    ·intro c g
     go_simp
     try with_reducible rfl
    simp only [Act.put,getElem_toArray,getElem_cons_zero,getElem_cons_succ,setIfInBounds_toArray,set_cons_zero,set_cons_succ];refine wpAnyH_take (i:=2) (v:=?_) rfl (by kernel_rfl) (by kernel_rfl) (by kernel_rfl) (fun _ _ _ h=>h) (Or.inl ⟨by rfl,?_⟩) (by assumption) ?_
    rotate_left
    ·intro c g
     go_simp
     try with_reducible rfl
    simp only [Act.put,getElem_toArray,getElem_cons_zero,getElem_cons_succ,setIfInBounds_toArray,set_cons_zero,set_cons_succ];refine wpAnyH_take (i:=4) (v:=?_) rfl (by kernel_rfl) (by kernel_rfl) (by kernel_rfl) (fun _ _ _ h=>h) (Or.inl ⟨by rfl,?_⟩) (by assumption) ?_
    rotate_left
    ·intro c g
     go_simp
     try with_reducible rfl
    simp only [Act.put,getElem_toArray,getElem_cons_zero,getElem_cons_succ,setIfInBounds_toArray,set_cons_zero,set_cons_succ];refine wpAnyH_take (i:=5) (v:=?_) rfl (by kernel_rfl) (by kernel_rfl) (by kernel_rfl) (fun _ _ _ h=>h) (Or.inl ⟨by rfl,?_⟩) (by assumption) ?_
    rotate_left
    ·intro c g
     go_simp
     try with_reducible rfl
    simp only [Act.put,getElem_toArray,getElem_cons_zero,getElem_cons_succ,setIfInBounds_toArray,set_cons_zero,set_cons_succ];refine wpAnyH_take (i:=6) (v:=?_) rfl (by kernel_rfl) (by kernel_rfl) (by kernel_rfl) (fun _ _ _ h=>h) (Or.inl ⟨by rfl,?_⟩) (by assumption) ?_
    rotate_left
    ·intro c g
     go_simp
     try with_reducible rfl
    simp only [Act.put,getElem_toArray,getElem_cons_zero,getElem_cons_succ,setIfInBounds_toArray,set_cons_zero,set_cons_succ];refine wpAnyH_take (i:=7) (v:=?_) rfl (by kernel_rfl) (by kernel_rfl) (by kernel_rfl) (fun _ _ _ h=>h) (Or.inl ⟨by rfl,?_⟩) (by assumption) ?_
    rotate_left
    ·intro c g
     go_simp
     try with_reducible rfl
    simp only [Act.put,getElem_toArray,getElem_cons_zero,getElem_cons_succ,setIfInBounds_toArray,set_cons_zero,set_cons_succ];refine wpAnyH_take (i:=8) (v:=?_) rfl (by kernel_rfl) (by kernel_rfl) (by kernel_rfl) (fun _ _ _ h=>h) (Or.inl ⟨by rfl,?_⟩) (by assumption) ?_
    rotate_left
    ·intro c g
     go_simp
     try with_reducible rfl
    simp only [Act.put,getElem_toArray,getElem_cons_zero,getElem_cons_succ,setIfInBounds_toArray,set_cons_zero,set_cons_succ];refine wpAnyH_take (i:=9) (v:=?_) rfl (by kernel_rfl) (by kernel_rfl) (by kernel_rfl) (fun _ _ _ h=>h) (Or.inl ⟨by rfl,?_⟩) (by assumption) ?_
    rotate_left
    ·intro c g
     go_simp
     try with_reducible rfl
    simp only [Act.put,getElem_toArray,getElem_cons_zero,getElem_cons_succ,setIfInBounds_toArray,set_cons_zero,set_cons_succ];refine wpAnyH_take (i:=10) (v:=?_) rfl (by kernel_rfl) (by kernel_rfl) (by kernel_rfl) (fun _ _ _ h=>h) (Or.inl ⟨by rfl,?_⟩) (by assumption) ?_
    rotate_left
    ·intro c g
     go_simp
     try with_reducible rfl
    simp only [Act.put,getElem_toArray,getElem_cons_zero,getElem_cons_succ,setIfInBounds_toArray,set_cons_zero,set_cons_succ];refine wpAnyH_take (i:=11) (v:=?_) rfl (by kernel_rfl) (by kernel_rfl) (by kernel_rfl) (fun _ _ _ h=>h) (Or.inl ⟨by rfl,?_⟩) (by assumption) ?_
    rotate_left
    ·intro c g
     go_simp
     try with_reducible rfl
    simp only [Act.put,getElem_toArray,getElem_cons_zero,getElem_cons_succ,setIfInBounds_toArray,set_cons_zero,set_cons_succ];refine wpAnyH_take (i:=12) (v:=?_) rfl (by kernel_rfl) (by kernel_rfl) (by kernel_rfl) (fun _ _ _ h=>h) (Or.inl ⟨by rfl,?_⟩) (by assumption) ?_
    rotate_left
    ·intro c g
     go_simp
     try with_reducible rfl
    simp only [Act.put,getElem_toArray,getElem_cons_zero,getElem_cons_succ,setIfInBounds_toArray,set_cons_zero,set_cons_succ];refine wpAnyH_ready (rs:=[3,13]) (by kernel_rfl) (by simp) ?_
    refine AllReadyH.cons rfl (fun t a=>?_) (AllReadyH.cons rfl (fun t a=>?_) AllReadyH.nil)
    ·go_simp
     refine a.out _ _ (by exact B) (fun C=>?_)
     clear a t;refine wpAnyH_ready (rs:=[13]) (by kernel_rfl) (by simp) ?_
     refine AllReadyH.cons rfl (fun t a=>?_) AllReadyH.nil
     go_simp
     refine a.out _ _ (by exact B) (fun C=>?_)
     clear a t;refine wpAnyH_take (i:=14) (v:=?_) rfl (by kernel_rfl) (by kernel_rfl) (by kernel_rfl) (fun _ _ _ h=>h) (Or.inl ⟨by rfl,?_⟩) (by assumption) ?_
     rotate_left
     ·intro c g
      go_simp
      try with_reducible rfl
     simp only [Act.put,getElem_toArray,getElem_cons_zero,getElem_cons_succ,setIfInBounds_toArray,set_cons_zero,set_cons_succ];refine wpAnyH_ready (rs:=[15]) (by kernel_rfl) (by simp) ?_
     refine AllReadyH.cons rfl (fun t a=>?_) AllReadyH.nil
     go_simp
     go_wp2_with((go_at_call 72;refine(ad.o _).mono ?_;rintro e w5 ⟨rfl,rfl⟩))
     refine a.out _ _ (by exact B) (fun C=>?_)
     clear a t;refine wpAnyH_take (i:=16) (v:=?_) rfl (by kernel_rfl) (by kernel_rfl) (by kernel_rfl) (fun _ _ _ h=>h) (Or.inl ⟨by rfl,?_⟩) (by assumption) ?_
     rotate_left
     ·intro c g
      go_simp
      try with_reducible rfl
     simp only [Act.put,getElem_toArray,getElem_cons_zero,getElem_cons_succ,setIfInBounds_toArray,set_cons_zero,set_cons_succ];refine wpAnyH_take (i:=17) (v:=?_) rfl (by kernel_rfl) (by kernel_rfl) (by kernel_rfl) (fun _ _ _ h=>h) (Or.inl ⟨by rfl,?_⟩) (by assumption) ?_
     rotate_left
     ·intro c g
      go_simp
      try with_reducible rfl
     simp only [Act.put,getElem_toArray,getElem_cons_zero,getElem_cons_succ,setIfInBounds_toArray,set_cons_zero,set_cons_succ];refine wpAnyH_take (i:=18) (v:=?_) rfl (by kernel_rfl) (by kernel_rfl) (by kernel_rfl) (fun _ _ _ h=>h) (Or.inl ⟨by rfl,?_⟩) (by assumption) ?_
     rotate_left
     ·intro c g
      go_simp
      try with_reducible rfl
     simp only [Act.put,getElem_toArray,getElem_cons_zero,getElem_cons_succ,setIfInBounds_toArray,set_cons_zero,set_cons_succ];refine wpAnyH_ready (rs:=[19]) (by kernel_rfl) (by simp) ?_
     refine AllReadyH.cons rfl (fun t a=>?_) AllReadyH.nil
     go_simp
     refine a.out _ _ (by exact af.o) (fun C=>?_)
     clear a t;refine wpAnyH_done (by kernel_rfl) ?_ _
     go_wp2_with fail
     go_meet
     exact ZZ ⟨1,rfl⟩
    ·go_simp
     refine a.out _ _ (by exact B) (fun C=>?_)
     clear a t;refine wpAnyH_take (i:=14) (v:=?_) rfl (by kernel_rfl) (by kernel_rfl) (by kernel_rfl) (fun _ _ _ h=>h) (Or.inl ⟨by rfl,?_⟩) (by assumption) ?_
     rotate_left
     ·intro c g
      go_simp
      try with_reducible rfl
     simp only [Act.put,getElem_toArray,getElem_cons_zero,getElem_cons_succ,setIfInBounds_toArray,set_cons_zero,set_cons_succ];refine wpAnyH_ready (rs:=[3,15]) (by kernel_rfl) (by simp) ?_
     refine AllReadyH.cons rfl (fun t a=>?_) (AllReadyH.cons rfl (fun t a=>?_) AllReadyH.nil)
     ·go_simp
      refine a.out _ _ (by exact B) (fun C=>?_)
      clear a t;refine wpAnyH_ready (rs:=[15]) (by kernel_rfl) (by simp) ?_
      refine AllReadyH.cons rfl (fun t a=>?_) AllReadyH.nil
      go_simp
      go_wp2_with((go_at_call 72;refine(ad.o _).mono ?_;rintro e w5 ⟨rfl,rfl⟩))
      refine a.out _ _ (by exact B) (fun C=>?_)
      clear a t;refine wpAnyH_take (i:=16) (v:=?_) rfl (by kernel_rfl) (by kernel_rfl) (by kernel_rfl) (fun _ _ _ h=>h) (Or.inl ⟨by rfl,?_⟩) (by assumption) ?_
      rotate_left
      ·intro c g
       go_simp
       try with_reducible rfl
      simp only [Act.put,getElem_toArray,getElem_cons_zero,getElem_cons_succ,setIfInBounds_toArray,set_cons_zero,set_cons_succ];refine wpAnyH_take (i:=17) (v:=?_) rfl (by kernel_rfl) (by kernel_rfl) (by kernel_rfl) (fun _ _ _ h=>h) (Or.inl ⟨by rfl,?_⟩) (by assumption) ?_
      rotate_left
      ·intro c g
       go_simp
       try with_reducible rfl
      simp only [Act.put,getElem_toArray,getElem_cons_zero,getElem_cons_succ,setIfInBounds_toArray,set_cons_zero,set_cons_succ];refine wpAnyH_take (i:=18) (v:=?_) rfl (by kernel_rfl) (by kernel_rfl) (by kernel_rfl) (fun _ _ _ h=>h) (Or.inl ⟨by rfl,?_⟩) (by assumption) ?_
      rotate_left
      ·intro c g
       go_simp
       try with_reducible rfl
      simp only [Act.put,getElem_toArray,getElem_cons_zero,getElem_cons_succ,setIfInBounds_toArray,set_cons_zero,set_cons_succ];refine wpAnyH_ready (rs:=[19]) (by kernel_rfl) (by simp) ?_
      refine AllReadyH.cons rfl (fun t a=>?_) AllReadyH.nil
      go_simp
      refine a.out _ _ (by exact af.o) (fun C=>?_)
      clear a t;refine wpAnyH_done (by kernel_rfl) ?_ _
      go_wp2_with fail
      go_meet
      exact ZZ ⟨1,rfl⟩
     ·go_simp
      go_wp2_with((go_at_call 72;refine(ad.o _).mono ?_;rintro e w5 ⟨rfl,rfl⟩))
      refine a.out _ _ (by exact B) (fun C=>?_)
      clear a t;refine wpAnyH_ready (rs:=[3]) (by kernel_rfl) (by simp) ?_
      refine AllReadyH.cons rfl (fun t a=>?_) AllReadyH.nil
      go_simp
      refine a.out _ _ (by exact B) (fun C=>?_)
      clear a t;refine wpAnyH_take (i:=16) (v:=?_) rfl (by kernel_rfl) (by kernel_rfl) (by kernel_rfl) (fun _ _ _ h=>h) (Or.inl ⟨by rfl,?_⟩) (by assumption) ?_
      rotate_left
      ·intro c g
       go_simp
       try with_reducible rfl
      simp only [Act.put,getElem_toArray,getElem_cons_zero,getElem_cons_succ,setIfInBounds_toArray,set_cons_zero,set_cons_succ];refine wpAnyH_take (i:=17) (v:=?_) rfl (by kernel_rfl) (by kernel_rfl) (by kernel_rfl) (fun _ _ _ h=>h) (Or.inl ⟨by rfl,?_⟩) (by assumption) ?_
      rotate_left
      ·intro c g
       go_simp
       try with_reducible rfl
      simp only [Act.put,getElem_toArray,getElem_cons_zero,getElem_cons_succ,setIfInBounds_toArray,set_cons_zero,set_cons_succ];refine wpAnyH_take (i:=18) (v:=?_) rfl (by kernel_rfl) (by kernel_rfl) (by kernel_rfl) (fun _ _ _ h=>h) (Or.inl ⟨by rfl,?_⟩) (by assumption) ?_
      rotate_left
      ·intro c g
       go_simp
       try with_reducible rfl
      simp only [Act.put,getElem_toArray,getElem_cons_zero,getElem_cons_succ,setIfInBounds_toArray,set_cons_zero,set_cons_succ];refine wpAnyH_ready (rs:=[19]) (by kernel_rfl) (by simp) ?_
      refine AllReadyH.cons rfl (fun t a=>?_) AllReadyH.nil
      go_simp
      refine a.out _ _ (by exact af.o) (fun C=>?_)
      clear a t;refine wpAnyH_done (by kernel_rfl) ?_ _
      go_wp2_with fail
      go_meet
      exact ZZ ⟨1,rfl⟩
   case rest=>
    obtain⟨q7,V⟩:=hcut.out;have I:Hid (Bk 117 wc P #[.slice ao R cap,.int .i64 (y:Int)]):=ZZ (by rw[V];exact ag.o.set 1 _)
    have ak:Hid (Bk 69 wc p (Zfm z DI (U:Int))):=ZZ (by rw[V];exact aY.o.other P 1 _ av.o)
    have Z:=ZZ V;have B:wc.cell? ⟨P,0,none⟩=some (.slice ao R cap):=(I.o.cell 0 rfl).1;have y0:wc.frozen? ⟨P,0,none⟩=false:=(I.o.cell 0 rfl).2;have g1:wc.cell? ⟨P,1,none⟩=some (.int .i64 (y:Int)):=(I.o.cell 1 rfl).1;clear V hcut;obtain⟨W7,al⟩:∃ W7,W7=wc:=⟨_,rfl⟩;rw[<-al] at I ak Z B y0 g1 ⊢;clear al
    go_upto_region 8 with fail
    go_cut[] (fun wd=>Hid (∃ q,wd=(W7.setCell ⟨P,0,none⟩ (.slice ao y cap)).drewN q))
    case first=>
     go_region
     all_goals
      go_wp2_with fail
      go_meet
      exact ZZ ⟨1,rfl⟩
    case rest=>
     obtain⟨q8,X⟩:=hcut.out;have aE:Hid (Bk 117 wc P #[.slice ao y cap,.int .i64 (y:Int)]):=ZZ (by rw[X];exact I.o.set 0 _)
     have aq:Hid (Bk 69 wc p (Zfm z DI (U:Int))):=ZZ (by rw[X];exact ak.o.other P 0 _ av.o)
     have Q:=ZZ X;have E:wc.cell? ⟨P,1,none⟩=some (.int .i64 (y:Int)):=(aE.o.cell 1 rfl).1;have M:wc.cell? ⟨p,1,none⟩=some (.int .i64 (U:Int)):=(aq.o.cell 1 rfl).1;have h3:wc.frozen? ⟨p,1,none⟩=false:=(aq.o.cell 1 rfl).2;clear X hcut B y0 g1;obtain⟨W8,am⟩:∃ W8,W8=wc:=⟨_,rfl⟩;rw[<-am] at Q E M h3 ⊢;clear am
     go_upto_region 9 with fail
     go_region
     all_goals
      go_wp2;go_roundw
      case rel=>
       refine⟨i+1,by go_num,by have:=aA.o;omega,_,ZZ (aD.o.keep (w':=(W8.setCell ⟨p,1,none⟩ (.int .i64 ((U:Int)+(y:Int)))).drew) (fun k _=>?_) ?_),ZZ ?_⟩
       ·rw[Q.o,Z.o]
        rfl
       ·rw[Q.o,Z.o]
        exact Nat.le_refl _
       ·rw[Q.o,Z.o]
        exact⟨K.o.os,K.o.tape,K.o.output,K.o.size,K.o.block⟩
      case measure=>have:=aA.o;simp[intOf];omega
theorem Ztt (names:Int) (m:Value) (keep:List Int) (w:World) (h:Dsk F w p d N T) (B:N<=1000000) (Y:T<=1000000000) (y:RdI w m keep) (D:keep=[]∨∀ k,m.ownBlock=some k->¬ F k) (aa:keep.length<=1000000000):
 Calls prog 12 #[ptr p,.int .i64 names,m] w fun e w'=>e=.returned (.tuple #[])∧Dsk F w' p (Zl d names keep) N T∧Qj F w w':=by
 obtain⟨L,h,a,b,C,A⟩:=h;have Q:=ZZ a;have g:=ZZ b;have M:=ZZ (And.intro C A);have H:=ZZ y;have v:=ZZ D;have u:=ZZ (Zhw names w h a b B);obtain⟨K,c⟩:∃ K,K=Zx names d.waits.length:=⟨_,rfl⟩;have i:=ZZ c;rw[<-c] at u;have G:Hid (OkD { d with kept:=Zy d K,waits:=[] }):=ZZ (Zgx (fs:=d.files) (a.dirs K) a.keep)
 have S:Hid (Bnd { d with kept:=Zy d K,waits:=[] } N T):=ZZ ⟨b.files,by have f:=Zbn d K;have E:=b.names;show(Zy d K).length+0<=N;omega,b.bytes⟩
 have U:Hid (∀ q ∈ Zy d K,q.2<d.files.length):=ZZ (fun q R=>((a.dirs K).may q R).2)
 obtain⟨ka,kc,rfl,-⟩:=y;clear h a b C A D c
 go_enter func12,ntmps12
 go_wp2_with fail
 refine u.o.mono ?_;rintro e Z ⟨rfl,n,j⟩;have P:=ZZ (ZkJ _ keep Z n rfl G.o S.o B Y (H.o.onlyE j v.o) v.o aa);have J:=ZZ j;clear n j
 go_wp2_with fail
 refine P.o.mono ?_;rintro e W2 ⟨rfl,⟨X,l⟩,z⟩;have t:=ZZ l;have O:=ZZ (J.o.trans z (fun _ _ W=>W))
 obtain⟨⟨-,-,-,-,-,c5⟩,-,-,-,f5⟩:=l.cells;clear l z;go_wp2;go_end0;refine⟨rfl,⟨X,?_,Q.o.crash names keep,⟨?_,?_,?_⟩,M.o.1,⟨by show(-9223372036854775808:Int)<=-1;omega,by show(-1:Int)<=9223372036854775807;omega⟩⟩,O.o.setCell 5 (fun _=>t.o.fh) _⟩
 ·have f:=t.o.setHead 5 (.int .i64 (-1)) (d':=Zl d names keep) (u':=(Y1 (Qu keep (Zy d K) 0 d.files) (Zy d K):Nat)) (by rw[i.o];exact⟨rfl,rfl,rfl⟩) rfl
  have I:Zj (Zl d names keep)=Y1 (Qu keep (Zy d K) 0 d.files) (Zy d K):=by rw[i.o];rfl
  rw[I];exact f
 ·have:=g.o.files
  show(Qu keep _ 0 d.files).length<=N;rw[Jj];exact this
 ·have f:=Zbn d (Zx names d.waits.length)
  have E:=g.o.names;show(Zy d (Zx names d.waits.length)).length+0<=N;omega
 ·intro x V
  refine ZcH keep (Zy d K) 0 d.files g.o.bytes U.o x ?_;rw[i.o];exact V
theorem Ztu (v:Value) (l:List UInt8) (w:World) (q:Rd w v l) (K:l.length<=70368744177664):
 Calls prog 183 #[v] w fun e w'=>∃ v',e=.returned v'∧Own w' w.heap.size v' l∧Below w.heap.size w w':=by
 obtain⟨z,t,H,n,D⟩:=info_parts Zkt;have B:=ZZ q;obtain⟨ao,cap,rfl,O,L,x,u⟩:=q;have A:=ZZ u;have y:=ZZ x;clear u x
 go_enter func183,ntmps183
 go_wp2_with(at_make;refine wpList_make_own _ rfl _ _ 53 rfl w.heap.size 5 z (.int .u8 0) 1 underlying53 t H n _ _ _ (l.length+10) rfl rfl (by omega) (by rw[D];omega) (by unfold maxLen;omega) zL ?_)
 intro G g c;have b:Below w.heap.size w G:=(Below.refl _ _).grown c zL (fun k a=>by cases a)
 obtain⟨M,N,j,_,_,_,i⟩:=B.o.below b zL;simp only [Value.slice.injEq] at j;obtain⟨rfl,_,rfl⟩:=j;have E:=ZZ i;have p:=ZZ b;have J:=ZZ c;clear i b c A
 go_wp2_with(at_builtin;refine wpList_append_fits_any _ rfl _ _ 53 rfl w.heap.size 5 z 1 underlying53 t n w.heap.size 0 (l.length+10) [] rfl g ao l.length cap (Lib.byteCells l) rfl (by rw[Yi,Nat.mul_one]) (fun e=>⟨by have:=y.o e;omega,y.o e⟩) (Rd.cells E.o) (ZaD l) (by omega) ?_)
 intro C d f;have m:Below w.heap.size w C:=p.o.grown f (by have:=p.o.size;omega) (fun k a=>by simp at a;omega)
 have I:=ZZ m;have F:=ZZ d;clear m f d g;go_wp2;go_ret;exact⟨_,rfl,Own.mk' F.o (by simp) (by simp),I.o⟩
theorem ZyX (y:Nat):bits .or .u8 ((y:Int) % 256) 128=(y:Int) % 128+128:=by
 rw[Lib.u8_or128_any _ (by omega) (by omega)]
 omega
theorem Own.snoc (l b:List UInt8) (a:Nat) (d:a<256) {n:Nat} {x:Int} (h:w.ownsRow B 5 1 v n (Lib.byteCells (l++b)++[Value.int .u8 x])) (e:n=l.length+b.length+1) (c:x=(a:Int)):Own w B v (l++(b++[a.toUInt8])):=by
 subst c;refine Own.mk' h (by rw[e];simp;omega) ?_
 rw[<-List.append_assoc,Lib.byteCells_snoc _ d]
theorem Zeu (v:Value) (l:List UInt8) (u:Nat) (w:World) (E:Rd w v l) (O:l.length<=70368744177664) (b:u<18446744073709551616):
 Calls prog 184 #[v,.int .u64 (u:Int)] w fun e w'=>∃ v',e=.returned v'∧Own w' w.heap.size v' (l++Lib.uvarint u)∧Below w.heap.size w w':=by
 obtain⟨J,F,H,D,C⟩:=info_parts Zkt;have Y:=Lib.uvarint_length64 b;have B:=ZZ (Ztu v l w E O);have V:=ZZ b;clear E b
 go_enter func184,ntmps184
 go_wp2_with fail
 refine B.o.mono ?_;rintro e W ⟨R,rfl,A,I⟩;have Q:=ZZ A;have N:=ZZ I;clear A I B;go_wp2
 go_loopw[1,5] (fun n P wr=>∃ (y:Nat) (c:List UInt8),n=.int .u64 (y:Int)∧Hid (y<=u∧Lib.uvarint u=c++Lib.uvarint y)∧Hid (Own wr w.heap.size P (l++c))∧Hid (Below w.heap.size w wr))
  (fun n _ _=>(intOf n).toNat)
 case atStart=>exact⟨u,[],rfl,⟨Nat.le_refl _,rfl⟩,by rw[List.append_nil];exact Q.o,N.o⟩
 case round=>
  obtain⟨y,c,rfl,m,i,z⟩:=hrel
  have T:c.length+(Lib.uvarint y).length<=10:=by
   have L:=congrArg List.length m.out.2;rw[List.length_append] at L;omega
  have S:=Lib.uvarint_pos y;have U:=z.out.size;by_cases K:128<=y
  ·have X:=ZyX y
   go_wp2_with(at_builtin;refine wpList_append_own _ rfl _ _ 53 rfl w.heap.size 5 J (.int .u8 0) 1 1 underlying53 F H D C rfl (by decide) _ _ _ rfl (World.ownsRow.alloc i.out _) ⟨wr.heap.size,0,none⟩ 1 1 [Value.int .u8 ((y % 128+128:Nat):Int)] rfl rfl ?c1 ?c2 ?c3 ?c4 ?c5 ?_)
   case c1=>
    intro j u a
    match j,a with
    | 0,a=>simp at a;subst a;simp[Addr.add]
   case c2=>intro u b;simp at b;subst b;rfl
   case c3=>unfold maxLen;simp;omega
   case c4=>simp;omega
   case c5=>simp;omega
   intro v' x f g _;have d:Below w.heap.size w x:=(z.out.alloc (by omega) _).grown g (by simp;omega) (fun k p=>(World.ownsRow.lt i.out k p).1)
   have t:=ZZ (Own.snoc l c (y % 128+128) (by omega) f (by simp) (by omega))
   have q:=ZZ d;clear f d g;go_wp2;go_roundw
   case rel=>exact⟨y / 128,c++[(y % 128+128).toUInt8],by go_num,⟨by have:=m.out.1;omega,by rw[m.out.2,Lib.uvarint_big K];simp⟩,t,q⟩
   case measure=>simp[intOf];omega
  ·have G:Lib.uvarint y=[y.toUInt8]:=Lib.uvarint_small (by omega)
   have M:=ZZ G;clear G
   go_wp2_with(at_builtin;refine wpList_append_own _ rfl _ _ 53 rfl w.heap.size 5 J (.int .u8 0) 1 1 underlying53 F H D C rfl (by decide) _ _ _ rfl (World.ownsRow.alloc i.out _) ⟨wr.heap.size,0,none⟩ 1 1 [Value.int .u8 (y:Int)] rfl rfl ?c1 ?c2 ?c3 ?c4 ?c5 ?_)
   case c1=>
    intro j u a
    match j,a with
    | 0,a=>simp at a;subst a;simp[Addr.add]
   case c2=>intro u b;simp at b;subst b;rfl
   case c3=>unfold maxLen;simp;omega
   case c4=>simp;omega
   case c5=>simp;omega
   intro v' x f g _;have d:Below w.heap.size w x:=(z.out.alloc (by omega) _).grown g (by simp;omega) (fun k p=>(World.ownsRow.lt i.out k p).1)
   have t:=ZZ (Own.snoc l c y (by omega) f (by simp) rfl)
   have q:=ZZ d;clear f d g;go_wp2;go_ret;refine⟨v',rfl,?_,q.o⟩;rw[m.out.2,M.o];exact t.o
def Zrg (l:List UInt8) (n:Int):List UInt8:=if 0<=n∧n<4611686018427387904 then l++Lib.uvarint n.toNat else l
theorem ZbA (v:Value) (l:List UInt8) (n:Int) (w:World) (d:Rd w v l) (m:l.length<=70368744177664):
 Calls prog 132 #[v,.int .i64 n] w fun e w'=>∃ v',e=.returned v'∧Own w' w.heap.size v' (Zrg l n)∧Below w.heap.size w w':=by
 by_cases h:0<=n∧n<4611686018427387904
 ·obtain⟨f,p⟩:=h
  have g:Hid (Zrg l n=l++Lib.uvarint n.toNat):=if_pos ⟨f,p⟩;have a:=ZZ (Zeu v l n.toNat w d m (by omega))
  have k:((n.toNat:Nat):Int)=n:=Int.toNat_of_nonneg f;rw[k] at a;clear k d
  go_enter func132,ntmps132
  go_wp2_with fail
  refine a.o.mono ?_;rintro e w' ⟨v',rfl,c,b⟩;have j:=ZZ c;have i:=ZZ b;clear c b a;go_wp2;go_ret;exact⟨v',rfl,by rw[g.o];exact j.o,i.o⟩
 ·have g:Hid (Zrg l n=l):=if_neg h
  have a:=ZZ (Ztu v l w d m);clear d;by_cases f:n<0
  all_goals
   go_enter func132,ntmps132
   go_wp2_with fail
   refine a.o.mono ?_;rintro e w' ⟨v',rfl,c,b⟩;have j:=ZZ c;have i:=ZZ b;clear c b a;go_wp2;go_ret;exact⟨v',rfl,by rw[g.o];exact j.o,i.o⟩
theorem Jk (v:Value) (l:List UInt8) (n:Int) (w:World) (f:Rd w v l) (k:l.length<=70368744177664) (b:-9223372036854775808<=n) (a:n<=9223372036854775807):
 Calls prog 142 #[v,.int .i64 n] w fun e w'=>∃ v',e=.returned v'∧Own w' w.heap.size v' (l++Lib.uvarint (Lib.zigzag n))∧Below w.heap.size w w':=by
 have d:=ZZ (Zeu v l (Lib.zigzag n) w f k (Lib.zigzag_lt b a));have g:=ZZ (Zxd n w b a);generalize Lib.zigzag n=z at *;clear f b a
 go_enter func142,ntmps142
 go_wp2_with fail
 refine g.o.mono ?_;rintro e w' ⟨rfl,rfl⟩
 go_wp2_with fail
 refine d.o.mono ?_;rintro e w' ⟨v',rfl,i,c⟩;have m:=ZZ i;have j:=ZZ c;clear i c d g;go_wp2;go_ret;exact⟨v',rfl,m.o,j.o⟩
def Cnt (l:List UInt8) (c:Nat):Prop:=
 (c=0∧∀ j,j<10->j<l.length->128<=(l.getD j 0).toNat)∨
 (1<=c∧c<=10∧c<=l.length∧(∀ j,j+1<c->128<=(l.getD j 0).toNat)∧(l.getD (c-1) 0).toNat<128)
theorem Ztv (v:Value) (l:List UInt8) (w:World) (u:Rd w v l):
 Calls prog 222 #[v] w fun e w'=>∃ c:Nat,e=.returned (.int .i64 (c:Int))∧Cnt l c∧w'=w:=by
 obtain⟨ao,cap,rfl,H,x,z,d⟩:=u;clear z;have B:(l.length:Int)<=9223372036854775807:=by unfold maxLen at x;omega
 by_cases G:(l.length:Int)<=10
 all_goals
  go_enter func222,ntmps222
  go_wp2
  go_loop [7] (fun i=>∃ k:Nat,i=.int .i64 k∧k<=10∧k<=l.length∧Hid (∀ j,j<k->128<=(l.getD j 0).toNat)) (fun i=>10-(intOf i).toNat)
  case atStart=>exact⟨0,rfl,by omega,by omega,fun j m=>by omega⟩
  case round=>
   obtain⟨k,rfl,D,I,f⟩:=hrel;by_cases g:k<10∧k<l.length
   ·obtain⟨g,q⟩:=g
    rcases d with d | ⟨b,E,rfl,n⟩
    ·subst d;simp at q
    ·have t:=n k q
     clear n;obtain⟨y,a⟩:∃ y,y=(l.getD k 0).toNat:=⟨_,rfl⟩;rw[<-a] at t;have p:Hid (y=(l.getD k 0).toNat):=a;clear a;by_cases F:(y:Int)<128
     ·go_wp2
      go_ret;refine⟨k+1,ZbT (by omega),.inr ⟨by omega,by omega,by omega,fun j m=>f.out j (by omega),?_⟩,rfl⟩
      rw[Nat.add_sub_cancel,<-p.o];omega
     ·go_wp2
      go_round
      case rel=>
       refine⟨k+1,by go_num,by omega,by omega,fun j m=>?_⟩
       by_cases e:j=k
       ·rw[e,<-p.o];omega
       ·exact f.out j (by omega)
      case measure=>simp[intOf];omega
   ·go_wp2
    go_ret;exact⟨0,rfl,.inl ⟨rfl,fun j C A=>f.out j (by omega)⟩,rfl⟩
theorem Zrh (h:Cnt l 0):Qd l=(0,0):=by
 rcases h with ⟨_,h⟩ | h
 ·unfold Qd
  rw[Zkr 10 l h]
 ·omega
theorem ZkK (h:Cnt l (c+1)):c<10∧c<l.length∧(l.getD c 0).toNat<128∧
 dec 10 l=if 0<c∧(l.getD c 0).toNat=0 then none else some (val (l.take (c+1)),c+1):=by
 rcases h with h | ⟨e,f,g,b,d⟩
 ·omega
 ·have a:(l.getD c 0).toNat<128:=by simpa using d
  exact⟨by omega,by omega,a,ZsP c 10 l (by omega) (by omega) (fun j i=>b j (by omega)) a⟩
theorem ZdK (l:List UInt8) (k:Nat) (h:k<=l.length):val (l.take k)<128 ^ k:=by
 have:=ZwS (l.take k)
 rwa [length_take,Nat.min_eq_left h] at this
theorem Ztw (h:Cnt l 10) (k:(l.getD 9 0).toNat≠1):Qd l=(0,0):=by
 obtain⟨j,d,f,c⟩:=ZkK h;unfold Qd;rw[c];by_cases a:(l.getD 9 0).toNat=0
 ·rw[if_pos ⟨by omega,a⟩]
 ·rw[if_neg (fun e=>a e.2)]
  have b:=Zec l 9 d;have g:(l.getD 9 0).toNat % 128=(l.getD 9 0).toNat:=Nat.mod_eq_of_lt f;rw[g] at b;have i:128 ^ 9=9223372036854775808:=by decide
  rw[i] at b;have:¬ val (l.take (9+1))<18446744073709551616:=by omega
  simp only [this,if_false]
theorem Zog (h:Cnt l (c+1)) (d:0<c) (b:(l.getD c 0).toNat=0):Qd l=(0,0):=by
 obtain⟨e,f,g,a⟩:=ZkK h;unfold Qd;rw[a,if_pos ⟨d,b⟩]
theorem Zri (h:Cnt l (c+1)) (g:c=9->(l.getD c 0).toNat=1) (k:0<c->(l.getD c 0).toNat≠0):
 Qd l=(val (l.take (c+1)),c+1)∧val (l.take (c+1))<18446744073709551616:=by
 obtain⟨n,j,p,f⟩:=ZkK h
 have b:val (l.take (c+1))<18446744073709551616:=by
  by_cases e:c=9
  ·subst e
   have a:=Zec l 9 j;have i:=ZdK l 9 (by omega)
   rw[g rfl] at a;have d:128 ^ 9=9223372036854775808:=by decide
   rw[d] at a i;omega
  ·have a:=ZdK l (c+1) (by omega)
   have m:128 ^ (c+1)<=128 ^ 9:=Nat.pow_le_pow_right (by decide) (by omega)
   have d:128 ^ 9=9223372036854775808:=by decide
   omega
 refine⟨?_,b⟩;unfold Qd;rw[f,if_neg (fun e=>k e.1 e.2)]
 simp only [b,if_true]
theorem ZwV (k y x:Nat) (c:k<64) (f:y<2 ^ k) (b:x*2 ^ k<18446744073709551616):
 bits .or .u64 (y:Int) (IntKind.u64.wrap ((x:Int)*2 ^ k))=((y+x*2 ^ k:Nat):Int):=by
 have e:((x:Int)*2 ^ k)=((x*2 ^ k:Nat):Int):=by simp
 have a:((2 ^ k:Nat):Int)=(2:Int) ^ k:=by simp
 have d:(2:Nat) ^ k<=2 ^ 64:=Nat.pow_le_pow_right (by decide) (by omega)
 rw[e,wraps_u64 _ (by omega) (by omega),bits_join_low .u64 64 (by decide) wraps_u64 k (y:Int) ((x*2 ^ k:Nat):Int) (by omega) (by rw[<-a];omega) (by omega) (by omega) (by rw[<-a];simp) (by omega)]
 omega
theorem Zxt (l:List UInt8) (k:Nat) (d:k<l.length) (j:k<10) (g:k=9->(l.getD k 0).toNat % 128<=1):
 bits .or .u64 ((val (l.take k):Nat):Int) (IntKind.u64.wrap (((l.getD k 0).toNat:Int) % 128*2 ^ (7*k)))=((val (l.take (k+1)):Nat):Int):=by
 have b:=ZdK l k (by omega)
 rw[Zec l k d,<-pow7];rw[<-pow7] at b;have e:(((l.getD k 0).toNat:Int) % 128)=(((l.getD k 0).toNat % 128:Nat):Int):=by omega
 rw[e];refine ZwV (7*k) _ _ (by omega) b ?_
 by_cases a:k=9
 ·have:=g a
  subst a;have c:2 ^ (7*9)=9223372036854775808:=by decide
  rw[c];omega
 ·have i:2 ^ (7*k)<=2 ^ 56:=Nat.pow_le_pow_right (by decide) (by omega)
  have f:(l.getD k 0).toNat % 128<=127:=by omega
  have:=Nat.mul_le_mul f i;have m:127*2 ^ 56<18446744073709551616:=by decide
  omega
theorem ZjE (v:Value) (l:List UInt8) (w:World) (F:Rd w v l):
 Calls prog 207 #[v] w fun e w'=>e=.returned (.tuple #[.int .u64 ((Qd l).1:Nat),.int .i64 ((Qd l).2:Nat)])∧w'=w:=by
 have E:=Ztv v l w F;obtain⟨ao,cap,rfl,ad,ab,U,t⟩:=F;clear U;have B:=ZZ E;clear E
 go_enter func207,ntmps207
 go_wp2_with fail
 refine B.o.mono ?_;rintro e w' ⟨c,rfl,a,rfl⟩;have a:Hid (Cnt l c):=a;clear B
 cases c with
 | zero=>
  have H:Hid (Qd l=(0,0)):=Zrh a.out;go_wp2;go_ret2;exact⟨by rw[H.out];rfl,rfl⟩
 | succ c=>
  obtain⟨X,G,S,M⟩:=ZkK a.out;clear M;rcases t with t | ⟨b,ac,rfl,q⟩
  ·subst t;simp at G
  have C:=q c G;obtain⟨y,n⟩:∃ y,y=(l.getD c 0).toNat:=⟨_,rfl⟩;rw[<-n] at C S;have d:Hid (y=(l.getD c 0).toNat):=n;have Q:=ZZ q;clear n q;by_cases g:(c=9∧y≠1)∨(0<c∧y=0)
  ·have H:Hid (Qd l=(0,0)):=by
    rcases g with ⟨f,L⟩ | ⟨N,R⟩
    ·subst f
     exact Ztw a.out (by rw[<-d.o];exact L)
    ·exact Zog a.out N (by rw[<-d.o];exact R)
   by_cases f:c=9
   ·have j:(((c:Int)+1) == 10)=true:=beq_iff_eq.2 (by omega)
    have K:((y:Int) != 1)=true:=by rw[bne_iff_ne];omega
    clear g f;go_wp2;go_ret2;exact⟨by rw[H.out];rfl,rfl⟩
   ·have j:(((c:Int)+1) == 10)=false:=beq_eq_false_iff_ne.2 (by omega)
    have p:(1:Int)<(c:Int)+1:=by omega
    have D:((y:Int) == 0)=true:=beq_iff_eq.2 (by omega)
    clear g f;go_wp2;go_ret2;exact⟨by rw[H.out];rfl,rfl⟩
  ·have H:Hid (Qd l=(val (l.take (c+1)),c+1)∧val (l.take (c+1))<18446744073709551616):=Zri a.out (fun h=>by rw[<-d.o];omega) (fun h=>by rw[<-d.o];omega)
   have hw3:(c=9∧y=1)∨c=0∨(0<c∧c<9∧y≠0):=by omega
   have O:Hid (c=9->y=1):=fun h=>by omega
   clear g;rcases hw3 with hw3 | hw3 | hw3
   all_goals
    first
     | (have j:(((c:Int)+1) == 10)=true:=beq_iff_eq.2 (by omega)
        have K:((y:Int) != 1)=false:=by rw[bne_eq_false_iff_eq];omega
        have p:(1:Int)<(c:Int)+1:=by omega
        have D:((y:Int) == 0)=false:=beq_eq_false_iff_ne.2 (by omega))
     | (have j:(((c:Int)+1) == 10)=false:=beq_eq_false_iff_ne.2 (by omega)
        have p:¬ (1:Int)<(c:Int)+1:=by omega)
     | (have j:(((c:Int)+1) == 10)=false:=beq_eq_false_iff_ne.2 (by omega)
        have p:(1:Int)<(c:Int)+1:=by omega
        have D:((y:Int) == 0)=false:=beq_eq_false_iff_ne.2 (by omega))
    clear hw3;have Z:(((c:Int)+1) == 0)=false:=beq_eq_false_iff_ne.2 (by omega)
    go_wp2
    go_loop [5,35] (fun u i=>∃ k:Nat,k<=c+1∧i=.int .i64 k∧u=.int .u64 (val (l.take k):Nat)) (fun _ i=>c+1-(intOf i).toNat)
    case atStart=>exact⟨0,Nat.zero_le _,rfl,rfl⟩
    case round=>
     obtain⟨k,Y,rfl,rfl⟩:=hrel;by_cases W:k<c+1
     ·have J:=Q.o k (by omega)
      obtain⟨x,m⟩:∃ x,x=(l.getD k 0).toNat:=⟨_,rfl⟩;rw[<-m] at J;have aa:x<256:=by rw[m];exact UInt8.toNat_lt _
      have I:=ZZ m;clear m;obtain⟨z,A⟩:∃ z,z=val (l.take k):=⟨_,rfl⟩;rw[<-A];have V:=ZZ A;clear A C;go_wp2
      go_round
      case rel=>
       refine⟨k+1,by omega,by go_num,?_⟩
       rw[V.o,I.o,Zxt l k (by omega) (by omega) (fun h=>?_)]
       have P:c=k:=by omega
       rw[<-P,<-d.o,O.o (by omega)]
       decide
      case measure=>simp[intOf];omega
     ·go_wp2
      go_ret2;have T:k=c+1:=by omega
      rw[H.out.1,T];exact⟨rfl,rfl⟩
theorem ZcI (v:Value) (l:List UInt8) (w:World) (g:Rd w v l):
 Calls prog 168 #[v] w fun e w'=>e=.returned (.tuple #[.int .i64 ((Qb l).1:Nat),.int .i64 ((Qb l).2:Nat)])∧w'=w:=by
 have a:=ZZ (ZjE v l w g);have H:Hid (Qb l=if(Qd l).1<4611686018427387904 then Qd l else(0,0)):=rfl
 generalize Qd l=d at *;obtain⟨u,k⟩:=d;obtain⟨U,b⟩:∃ U:Int,U=(u:Int):=⟨_,rfl⟩;simp only at a H;rw[<-b] at a;have j:0<=U:=by omega
 have f:=ZZ b;clear b;by_cases i:U<4611686018427387904
 ·go_enter func168,ntmps168
  go_wp2_with fail
  refine a.o.mono ?_;rintro e w' ⟨rfl,rfl⟩;go_wp2;go_ret2;have e:=H.out;have c:=f.o;rw[if_pos (by omega)] at e
  rw[e];exact⟨by rw[c];rfl,rfl⟩
 ·go_enter func168,ntmps168
  go_wp2_with fail
  refine a.o.mono ?_;rintro e w' ⟨rfl,rfl⟩;go_wp2;go_ret2;have e:=H.out;have c:=f.o;rw[if_neg (by omega)] at e
  rw[e];exact⟨rfl,rfl⟩
theorem Zaj (v:Value) (l:List UInt8) (w:World) (f:Rd w v l):
 Calls prog 201 #[v] w fun e w'=>e=.returned (.tuple #[.int .i64 (zag (Qd l).1),.int .i64 ((Qd l).2:Nat)])∧w'=w:=by
 have b:=ZZ (ZjE v l w f);have a:=Zks l;have c:=Jz l;generalize Qd l=d at *;obtain⟨u,k⟩:=d;simp only at b a c
 go_enter func201,ntmps201
 go_wp2_with fail
 refine b.o.mono ?_;rintro e w' ⟨rfl,rfl⟩
 go_wp2_with fail
 refine(Zxe u _ a).mono ?_;rintro e g ⟨rfl,rfl⟩;go_wp2;go_ret2;exact⟨rfl,rfl⟩
theorem ZfV:∀ (k v:Nat),Lib.leBytes (k+1) v=Lib.leBytes k v++[(v / 256 ^ k % 256).toUInt8]
 | 0,v=>by simp[Lib.leBytes]
 | k+1,v=>by
  have a:=ZfV k (v / 256);have e:v / 256 / 256 ^ k=v / 256 ^ (k+1):=by rw[Nat.div_div_eq_div_mul,Nat.pow_succ,Nat.mul_comm]
  rw[Lib.leBytes,a,e];simp[Lib.leBytes]
def Zhx (c k v:Nat):List UInt8:=Lib.leBytes k v++List.replicate (c-k) 0
theorem Zmn (c k v:Nat) (h:k<=c):(Zhx c k v).length=c:=by
 simp[Zhx,Lib.leBytes_length];omega
theorem Ztx (c k v:Nat) (h:k<c):(Lib.byteCells (Zhx c k v)).set k (.int .u8 ((v / 256 ^ k % 256:Nat):Int))=Lib.byteCells (Zhx c (k+1) v):=by
 have e:c-k=(c-(k+1))+1:=by omega
 unfold Zhx;rw[ZfV,e,List.replicate_succ];have a:(Lib.byteCells (Lib.leBytes k v)).length=k:=by rw[Yi,Lib.leBytes_length]
 have b:((v / 256 ^ k % 256).toUInt8).toNat=v / 256 ^ k % 256:=Lib.toUInt8_toNat (Nat.mod_lt _ (by decide))
 simp only [Lib.byteCells,List.map_append,List.map_cons,List.map_nil,b] at a ⊢;rw[List.set_append_right _ _ (by omega),a]
 simp
theorem ZyY (k:Nat):2 ^ (8*k)=256 ^ k:=by rw[Nat.pow_mul]
theorem Zty (v k:Nat):((v:Int) / 2 ^ (8*k)) % 256=((v / 256 ^ k % 256:Nat):Int):=by
 rw[<-ZyY];simp
theorem Zrj (v c:Nat) (w:World) (C:c<=8):
 Calls prog 186 #[.int .u64 (v:Int),.int .i64 (c:Int)] w fun e w'=>∃ v',e=.returned v'∧Own w' w.heap.size v' (Lib.leBytes c v)∧Below w.heap.size w w':=by
 obtain⟨B,y,A,u,t⟩:=info_parts Zkt
 go_enter func186,ntmps186
 go_wp2_with(at_make;refine wpList_make_full _ rfl _ _ 53 rfl w.heap.size 5 B (.int .u8 0) 1 underlying53 y A u _ _ _ _ c rfl rfl rfl rfl (by rw[t];omega) (by unfold maxLen;omega) zL ?_)
 intro q j p;have m:Below w.heap.size w q:=(Below.refl _ _).grown p zL (fun k b=>by cases b)
 have g:q.ownsRow w.heap.size 5 1 (.slice (some ⟨w.heap.size,0,none⟩) c c) c (Lib.byteCells (Zhx c 0 v)):=by
  have e:(madeCells #[Value.int .u8 0] c).toList=Lib.byteCells (Zhx c 0 v):=by
   rw[toList_madeCells_one];simp[Zhx,Lib.leBytes,Lib.byteCells]
  rw[<-e];exact j
 have z:=ZZ g;have x:=ZZ m;clear j g m p;go_wp2
 go_loopw[11] (fun i wr=>∃ k:Nat,k<=c∧i=.int .i64 (k:Int)∧Hid (wr.ownsRow w.heap.size 5 1 (.slice (some ⟨w.heap.size,0,none⟩) c c) c (Lib.byteCells (Zhx c k v)))∧Hid (Below w.heap.size w wr)) (fun i _=>c-(intOf i).toNat)
 case atStart=>exact⟨0,Nat.zero_le _,rfl,z,x⟩
 case round=>
  obtain⟨k,b,rfl,a,d⟩:=hrel;by_cases f:k<c
  ·have D:wr.cell? ⟨w.heap.size,k,none⟩=some (.int .u8 ((Zhx c k v).getD k 0).toNat):=by
    rw[World.ownsRow.cellAt a.out k (by omega),ZbS _ _ (by rw[Zmn c k v b];exact f)]
   have E:wr.frozen? ⟨w.heap.size,k,none⟩=false:=World.ownsRow.frozenAt a.out k;go_wp2;go_roundw
   case rel=>
    have n:=World.ownsRow.stored a.out k (Value.int .u8 ((v / 256 ^ k % 256:Nat):Int));rw[Ztx c k v f] at n;rw[Zty];exact⟨k+1,by omega,by go_num,n.1,d.out.setCell zL _⟩
   case measure=>simp[intOf];omega
  ·go_wp2
   go_ret;have e:k=c:=by omega
   refine⟨_,rfl,Own.mk' (l:=Lib.leBytes c v) a.out (by rw[Lib.leBytes_length]) ?_,d.out⟩
   rw[e];simp[Zhx]
theorem Zhy (v:Nat) (w:World) (h:v<4294967296):
 Calls prog 135 #[.int .u32 (v:Int)] w fun e w'=>∃ v',e=.returned v'∧Own w' w.heap.size v' (Lib.leBytes 4 v)∧Below w.heap.size w w':=by
 have a:Hid (Calls prog 186 #[.int .u64 (v:Int),.int .i64 4] w fun e w'=>∃ v',e=.returned v'∧Own w' w.heap.size v' (Lib.leBytes 4 v)∧Below w.heap.size w w'):=Zrj v 4 w (by omega)
 obtain⟨U,c⟩:∃ U:Int,U=(v:Int):=⟨_,rfl⟩;have j:0<=U:=by omega
 have i:U<4294967296:=by omega
 rw[<-c] at a ⊢;clear c h
 go_enter func135,ntmps135
 go_wp2_with fail
 refine a.o.mono ?_;rintro e w' ⟨v',rfl,d,b⟩;have g:=ZZ d;have f:=ZZ b;clear d b a;go_wp2;go_ret;exact⟨v',rfl,g.o,f.o⟩
theorem ZkL:∀ l:List UInt8,Lib.leNat l<256 ^ l.length
 | []=>by simp[Lib.leNat]
 | c::r=>by
  have h:=ZkL r;have a:=c.toNat_lt;simp only [Lib.leNat,length_cons,Nat.pow_succ];omega
theorem ZjF:∀ (l:List UInt8) (c:UInt8),Lib.leNat (l++[c])=Lib.leNat l+c.toNat*256 ^ l.length
 | [],c=>by simp[Lib.leNat]
 | d::r,c=>by
  have h:=ZjF r c;simp only [List.cons_append,Lib.leNat,length_cons,Nat.pow_succ,h];rw[Nat.mul_add,<-Nat.mul_assoc,Nat.mul_comm 256 c.toNat,Nat.mul_assoc,Nat.mul_comm 256 (256 ^ r.length)];omega
theorem Zrk (l:List UInt8) (k:Nat) (h:k<l.length):Lib.leNat (l.take (k+1))=Lib.leNat (l.take k)+(l.getD k 0).toNat*256 ^ k:=by
 rw[ZgP l k h,ZjF,length_take,Nat.min_eq_left (by omega)]
theorem ZkM (l:List UInt8) (k:Nat) (h:k<=l.length):Lib.leNat (l.take k)<256 ^ k:=by
 have:=ZkL (l.take k)
 rwa [length_take,Nat.min_eq_left h] at this
theorem ZvS (l:List UInt8) (k:Nat) (b:k<l.length) (f:k<8):
 bits .or .u64 ((Lib.leNat (l.take k):Nat):Int) (IntKind.u64.wrap (((l.getD k 0).toNat:Int)*2 ^ (8*k)))=((Lib.leNat (l.take (k+1)):Nat):Int):=by
 have a:=ZkM l k (by omega)
 rw[Zrk l k b,<-ZyY];rw[<-ZyY] at a;refine ZwV (8*k) _ _ (by omega) a ?_
 have d:2 ^ (8*k)<=2 ^ 56:=Nat.pow_le_pow_right (by decide) (by omega)
 have e:=(l.getD k 0).toNat_lt;have c:(l.getD k 0).toNat<=255:=by omega
 have:=Nat.mul_le_mul c d;have g:255*2 ^ 56<18446744073709551616:=by decide
 omega
theorem Zmo (v:Value) (l:List UInt8) (w:World) (j:Rd w v l):
 Calls prog 161 #[v] w fun e w'=>e=.returned (.int .u64 (Lib.leNat (l.take 8):Nat))∧w'=w:=by
 obtain⟨ao,cap,rfl,C,m,p,c⟩:=j;clear p;have q:(l.length:Int)<=9223372036854775807:=by unfold maxLen at m;omega
 by_cases B:(l.length:Int)<=8
 all_goals
  go_enter func161,ntmps161
  go_wp2
  go_loop [3,8] (fun n i=>∃ k:Nat,i=.int .i64 k∧k<=8∧k<=l.length∧n=.int .u64 (Lib.leNat (l.take k):Nat)) (fun _ i=>8-(intOf i).toNat)
  case atStart=>exact⟨0,rfl,by omega,by omega,rfl⟩
  case round=>
   obtain⟨k,rfl,x,D,rfl⟩:=hrel;by_cases a:k<8∧k<l.length
   ·obtain⟨a,d⟩:=a
    rcases c with c | ⟨b,A,rfl,f⟩
    ·subst c;simp at d
    ·have u:=f k d
     have g:=ZZ (ZvS l k d a);have t:(l.getD k 0).toNat<256:=UInt8.toNat_lt _;clear f;generalize (l.getD k 0).toNat=y at *;generalize Lib.leNat (l.take k)=z at *;go_wp2
     go_round
     case rel=>exact⟨k+1,by go_num,by omega,by omega,by rw[g.o]⟩
     case measure=>simp[intOf];omega
   ·go_wp2
    go_ret;refine⟨ZbT ?_,rfl⟩;by_cases e:k=8
    ·rw[e]
    ·rw[List.take_of_length_le (by omega:l.length<=k),List.take_of_length_le (by omega:l.length<=8)]
def bs (l:List UInt8):ByteArray:=⟨l.toArray⟩
theorem Ztz (l:List UInt8):(bs l).toList=l:=ByteArray.toList_mk l
theorem ZyZ (a b:List UInt8):((bs a).toList == (bs b).toList)=(a == b):=by rw[Ztz,Ztz]
theorem Rd.str (h:Rd w v l):(convert 53 9 v).run prog w=.ok (.string (bs l)) w:=by
 obtain⟨ao,cap,rfl,_,_,d,h⟩:=h
 cases ao with
 | none=>
  have b:l=[]:=List.eq_nil_of_length_eq_zero (by have:=d rfl;omega)
  subst b;exact run_convert_bytes_nil w 53 5 underlying53 underlying5 0 cap 9 underlying9
 | some a=>
  have b:(loadCells a l.length).run prog w=.ok ((l.map fun c=>(c.toNat:Int)).map (Value.int .u8)).toArray w:=by
   have:=run_loadCells_list (P:=prog) w a (Lib.byteCells l) (Rd.cells h a rfl);rw[Yi] at this;rw[this];simp[Lib.byteCells,Function.comp_def]
  rw[run_convert_bytes_string w 53 9 5 _ l.length cap underlying53 underlying5 underlying9,run_bytesToString w _ l.length cap _ b,foldl_push_bytes]
  have e:(List.map (fun n:Int=>UInt8.ofNat n.toNat) (List.map (fun c:UInt8=>(c.toNat:Int)) l))=l:=by
   rw[List.map_map]
   conv=>rhs;rw[<-List.map_id l]
   apply List.map_congr_left;intro c _;simp
  rw[e];simp[bs,ByteArray.empty,ByteArray.emptyWithCapacity];rfl
def Zxu (B:Nat) (w:World) (p:Nat) (d:Dk) (N T:Nat):Prop:=∃ F,Dsk F w p d N T∧∀ k,F k->B<=k
theorem ZpY (B:Nat) (room:Int) (b:I64 room) (w:World) (c:B<=w.heap.size):
 Calls prog 9 #[.int .i64 room] w fun e w'=>∃ p,e=.returned (ptr p)∧Zxu B w' p (ZiS room) 0 0∧Below B w w':=by
 refine(Zxp room b w).mono ?_;rintro e w' ⟨p,d,f,a⟩;exact⟨p,d,⟨_,f,fun k g=>by omega⟩,a.mono c⟩
theorem Dsk.ltF (h:Dsk F w p d N T):∀ k,F k->k<w.heap.size:=by
 obtain⟨L,a,_⟩:=h;exact a.lt
theorem Zrl (w:World) (h:Zxu B w p d N T) (a:N<=1000000):
 Calls prog 28 #[ptr p] w fun e w'=>∃ v,e=.returned v∧Qo w' w.heap.size v ((Q6 d).map Prod.fst)∧Below w.heap.size w w':=by
 obtain⟨F,⟨L,b,c,_⟩,f⟩:=h;exact Zet w b c a
theorem Zxu.ok (h:Zxu B w p d N T):OkD d∧Bnd d N T:=by
 obtain⟨F,⟨L,c,b,a,_⟩,e⟩:=h;exact⟨b,a⟩
theorem Jc (w:World) (o:Obj):Below w.heap.size w (w.alloc o):=(Below.refl _ w).alloc zL o
theorem Rd.mid (h:Rd w (.slice ao n cap) l) (i j m:Nat) (F:i<=j) (z:j<=l.length) (A:j<=m) (C:m<=cap):Rd w (sliced ao i j m 1) ((l.drop i).take (j-i)):=by
 obtain⟨D,E,p,B,y,q,c⟩:=h;simp only [Value.slice.injEq] at p;obtain⟨rfl,rfl,rfl⟩:=p;have d:((l.drop i).take (j-i)).length=j-i:=by simp;omega
 unfold sliced;by_cases g:m=i
 ·rw[if_pos g]
  have e:j-i=0:=by omega
  refine⟨ao,m-i,by rw[d],by omega,by omega,fun a=>by have:=q a;omega,.inl ?_⟩
  rw[e];simp
 ·rw[if_neg g]
  refine⟨ao.map (·.add (i*1)),m-i,by rw[d],by omega,by omega,fun a=>?_,?_⟩
  ·have u:ao=none:=by simpa using a
   have:=q u;omega
  ·rcases c with c | ⟨b,v,t,x⟩
   ·exact .inl (by rw[c];simp)
   ·refine .inr ⟨b,v+i,?_,fun k f=>?_⟩
    ·rw[t,Nat.mul_one,Option.map_some,Addr.add_lit]
    ·rw[d] at f
     rw[Nat.add_assoc,x (i+k) (by omega)]
     simp[List.getD,f]
theorem Zw:prog.elem 53=5:=by kernel_rfl
theorem Zcd (w:World):(sizeOf 5).run prog w=.ok 1 w:=by
 obtain⟨c,a,_,b,_⟩:=info_parts Zkt;simp[sizeOf,typeInfo,a,b]
theorem Xf:prog.underlying 53=some (.slice (prog.elem 53)):=by rw[Zw];exact underlying53
theorem Zhz (w:World) (v:Value) (l:List UInt8) (a:Rd w v l) (k:IntKind) (i:Int) (c:0<=i) (d:i<=l.length):
 ∃ v',(Instr.sliceAt 53 v (some (.int k i)) none none).run prog w=.ok v' w∧Rd w v' (l.drop i.toNat):=by
 have h:=a;obtain⟨ao,cap,rfl,b,_⟩:=a;refine⟨sliced ao i.toNat l.length cap 1,?_,?_⟩
 ·rw[run_sliceAt_slice w 53 _ _ _ _ Xf,run_slice_l w 53 ao l.length cap Xf k i c (by omega),Zw,Zcd]
  rfl
 ·have:=h.mid i.toNat l.length cap (by omega) zL b zL
  rw[List.take_of_length_le (by simp)] at this
  exact this
theorem Zfo (w:World) {c:Array Oper} {rest:List Oper} {o:Oper} {a:Act} {Q:Exit->Act->World->Prop} (i:o.guard=none) (x:Operand) (lo d e:Option Operand)
 (j:o.op=.slice 53 x lo d e) (l:List UInt8)
 (b:∃ v',(Instr.sliceAt 53 (a.eval x) (lo.map a.eval) (d.map a.eval) (e.map a.eval)).run prog w=.ok v' w∧Rd w v' l)
 (h:∀ v',Rd w v' l->wpList prog c Q rest (a.put o.dst v') w):wpList prog c Q (o::rest) a w:=
 wpList_plain i fun _ f=>by
  obtain⟨v',b,g⟩:=b;unfold Oper.wp execOp;simp only [j,b,Sem.run_bind,Sem.run_pure,Result.andThen_ok];exact f _ _ (h v' g)
end Go.Proofs.YtnahjngbneicaaaGreatDoor
