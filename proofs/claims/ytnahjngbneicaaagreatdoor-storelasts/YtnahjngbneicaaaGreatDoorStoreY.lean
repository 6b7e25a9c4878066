import Derived.Test.YtnahjngbneicaaaGreatDoorStoreX
namespace Go.Proofs.YtnahjngbneicaaaGreatDoor
open _root_.Go.Proofs.Tryz
set_option maxRecDepth 100000
open Go.RowKit
variable {a w:World} {I:Nat->Prop} {bv:Value} {bs:List (Q0 × Value × Value)} {bases:List Q0} {pd:Nat}
def Zqr (b:List Q0):Sto:=⟨ZaE,b,Yb,0,0,false⟩
def ZtQ (pd:Nat) (bv:Value):Array Value:=
 #[ptr pd,.int .i64 0,.slice none 0 0,.slice none 0 0,bv,.int .i64 0,.int .i64 0,.slice none 0 0,.bool false,.int .i64 0,.slice none 0 0,.int .i64 0,.int .i64 0,.bool false]
theorem Zwd {j:Value} {e:List Int} (pd:Nat) (h:Gt w I j e bv bs a) (i:bs.map Prod.fst=bases):
 Jq (fun k=>k=a.heap.size∨bv.ownBlock=some k) I (a.alloc (.cells (ZtQ pd bv) 76)) a.heap.size pd ⟨.slice none 0 0,.slice none 0 0,bv,.slice none 0 0,.slice none 0 0,bs⟩ (Zqr bases):=by
 have f:=Jw a (.cells (ZtQ pd bv) 76);have l:(a.alloc (.cells (ZtQ pd bv) 76)).heap.size=a.heap.size+1:=by simp
 have b:=h.below f;refine⟨heap_alloc_new a _,Xj.nil _ _,World.ownsRow_nil _ _ _ _,b.row,i,⟨RdI.nil _,RdE.nil _,(Qo (by decide) (by decide):I64 0),(Qo (by decide) (by decide):I64 0),(Qo (by decide) (by decide):I64 0)⟩,b.each,.inl rfl,(fun g c=>by cases c),(fun g c=>by cases c),fun g c=>.inr c,⟨.inl rfl,.inl rfl⟩,b.ibs,fun k hk=>?_,b.ltI,fun k hk d=>?_⟩
 ·rcases hk with hk | hk
  ·omega
  ·exact b.ltB k hk
 ·rcases hk with hk | hk
  ·have:=h.ltI k d
   omega
  ·exact h.dis k d hk
def Zop (W:World) (p:Nat) (f rv pv x0 x1 x2 x3 x4 x5:Value):World:=
 ((((((((W.setCell ⟨p,1,none⟩ f).setCell ⟨p,2,none⟩ rv).setCell ⟨p,3,none⟩ pv).setCell ⟨p,5,none⟩ x0).setCell ⟨p,6,none⟩ x1).setCell ⟨p,7,none⟩ x2).setCell ⟨p,8,none⟩ x3).setCell ⟨p,9,none⟩ x4).setCell ⟨p,10,none⟩ x5
theorem ZkT (W:World) (p:Nat) (f rv pv g c b d h e:Value):Ql (fun k=>k=p) W (Zop W p f rv pv g c b d h e):=by
 have a:p<W.heap.size->(fun k=>k=p) p:=fun _=>rfl
 exact(((((((((Ql.refl (fun k=>k=p) W).setCell 1 a f).setCell 2 a rv).setCell 3 a pv).setCell 5 a g).setCell 6 a c).setCell 7 a b).setCell 8 a d).setCell 9 a h).setCell 10 a e
theorem Ztv {W:World} {p:Nat} (h:Bk 76 W p (ZtQ pd bv)) (f rv pv e b a c g d:Value):Bk 76 (Zop W p f rv pv e b a c g d) p #[ptr pd,f,rv,pv,bv,e,b,a,c,g,d,.int .i64 0,.int .i64 0,.bool false]:=by
 have i:=((((((((h.set 1 f).set 2 rv).set 3 pv).set 5 e).set 6 b).set 7 a).set 8 c).set 9 g).set 10 d;simp only [ZtQ,List.setIfInBounds_toArray,List.set_cons_zero,List.set_cons_succ] at i;unfold Zop;exact i
theorem Zwe {c f b:World} {O:Value} {L:List Int} {rv pv e d:Value} {r:Lgb × Q0} (pd:Nat) (h:Gt w I O L bv bs a) (N:bs.map Prod.fst=bases) (p:c=a.alloc (.cells (ZtQ pd bv) 76))
 (n:Below c.heap.size c f) (z:Below f.heap.size f b) (D:Xj b 0 rv r.1.recs) (J:b.ownsRow 0 108 3 pv r.1.pcs.length (Q6 r.1.pcs)) (m:∀ k,rv.ownBlock=some k->c.heap.size<=k∧k<f.heap.size) (l:∀ k,pv.ownBlock=some k->c.heap.size<=k∧k<f.heap.size)
 (H:SnR b (r.2,e,d)) (y:Zmp (fun k=>I k∨(f.heap.size<=k∧k<b.heap.size)) (r.2,e,d)):
 Jq (fun k=>k=a.heap.size∨rv.ownBlock=some k∨pv.ownBlock=some k∨bv.ownBlock=some k) (fun k=>I k∨(f.heap.size<=k∧k<b.heap.size)) (Zop b a.heap.size (.int .i64 r.1.first) rv pv (.int .i64 r.2.idx) (.int .i64 r.2.st.kind) e (.bool r.2.st.shut) (.int .i64 r.2.st.eng) d) a.heap.size pd ⟨rv,pv,bv,e,d,bs⟩ ⟨r.1,bases,r.2,0,0,false⟩:=by
 have v:Below a.heap.size a c:=by rw[p];exact Jw _ _
 have R:c.heap.size=a.heap.size+1:=by rw[p];simp
 have Q:=n.size;have S:=z.size;have B:Below c.heap.size c b:=n.trans (z.mono n.size);have C:Below a.heap.size a b:=v.trans (B.mono v.size);have t:=h.below C
 have G:Bk 76 b a.heap.size (ZtQ pd bv):=by
  have M:Bk 76 c a.heap.size (ZtQ pd bv):=by rw[p];exact heap_alloc_new a _
  exact M.keep (B.block _ (by omega))
 have u:=ZkT b a.heap.size (.int .i64 r.1.first) rv pv (.int .i64 r.2.idx) (.int .i64 r.2.st.kind) e (.bool r.2.st.shut) (.int .i64 r.2.st.eng) d
 have A:Bk 76 (Zop b a.heap.size (.int .i64 r.1.first) rv pv (.int .i64 r.2.idx) (.int .i64 r.2.st.kind) e (.bool r.2.st.shut) (.int .i64 r.2.st.eng) d) a.heap.size (stC pd ⟨rv,pv,bv,e,d,bs⟩ ⟨r.1,bases,r.2,0,0,false⟩):=
  Ztv G _ _ _ _ _ _ _ _ _
 obtain⟨q,F⟩:∃ q,q=Zop b a.heap.size (.int .i64 r.1.first) rv pv (.int .i64 r.2.idx) (.int .i64 r.2.st.kind) e (.bool r.2.st.shut) (.int .i64 r.2.st.eng) d:=⟨_,rfl⟩;rw[<-F] at u A ⊢;have P:=u.size;have i:∀ k,k<b.heap.size->k≠a.heap.size->q.heap[k]?=b.heap[k]?:=fun k K E=>u.block k K E
 have g:∀ k,(I k∨(f.heap.size<=k∧k<b.heap.size))->k<b.heap.size∧k≠a.heap.size:=fun k hk'=>by
  rcases hk' with hk' | hk'
  ·have:=h.ltI k hk'
   omega
  ·omega
 refine⟨A,Qh D fun k hk'=>i k (by have:=m k hk';omega) (by have:=m k hk';omega),Qh J fun k hk'=>i k (by have:=l k hk';omega) (by have:=l k hk';omega),Qh t.row fun k hk'=>i k (t.ltB k hk') (by have:=h.ltB k hk';omega),N,?_,?_,.inl rfl,fun k hk'=>.inr (.inl hk'),fun k hk'=>.inr (.inr (.inl hk')),fun k hk'=>.inr (.inr (.inr hk')),y,fun x j=>(h.ibs x j).mono (fun k hk'=>.inl hk'),fun k hk'=>?_,fun k hk'=>?_,fun k hk' hi'=>?_⟩
 ·exact H.keep y fun k hk'=>i k (g k hk').1 (g k hk').2
 ·exact fun x j=>(t.each x j).keep (h.ibs x j) fun k hk'=>i k (g k (.inl hk')).1 (g k (.inl hk')).2
 ·rcases hk' with hk' | hk' | hk' | hk'
  ·omega
  ·have:=m k hk';omega
  ·have:=l k hk';omega
  ·have:=h.ltB k hk';omega
 ·have:=(g k hk').1
  omega
 ·rcases hk' with hk' | hk' | hk' | hk'
  ·exact(g k hi').2 hk'
  ·have:=m k hk'
   rcases hi' with hi' | hi'
   ·have:=h.ltI k hi';omega
   ·omega
  ·have:=l k hk'
   rcases hi' with hi' | hi'
   ·have:=h.ltI k hi';omega
   ·omega
  ·rcases hi' with hi' | hi'
   ·exact h.dis k hi' hk'
   ·have:=h.ltB k hk';omega
theorem Zmm {B n s:Nat} {t:TypeId} {v:Value} {xs:List Value} (h:w.ownsRow B t s v n xs):w.ownsRow 0 t s v n xs:=ZaS h fun _ _=>Nat.zero_le _
def Zwf (K:Nat->Prop) (w:World) (pd:Nat) (d:Dk) (kind:Int) (N T:Nat) (e:Ending) (w':World):Prop:=
 (ZfB d kind≠0∧e=.returned (.tuple #[.pointer none,.int .i64 (ZfB d kind)])∧w'=w)∨
 (ZfB d kind=0∧∃ p,e=.returned (.tuple #[ptr p,.int .i64 0])∧SD K w' pd p (Zew d kind) d N T∧Below w.heap.size w w')
theorem Zqs (d:Dk) (kind:Int):(kind<0∨6<=kind)∧ZfB d kind=1∨(0<=kind∧kind<6∧d.power=0∧ZfB d kind=11)∨(0<=kind∧kind<6∧d.power≠0∧ZfB d kind=0):=by
 unfold ZfB;by_cases h:kind<0∨6<=kind
 ·exact .inl ⟨h,if_pos h⟩
 ·rw[if_neg h]
  by_cases a:d.power=0
  ·exact .inr (.inl ⟨by omega,by omega,a,if_pos a⟩)
  ·exact .inr (.inr ⟨by omega,by omega,a,if_neg a⟩)
set_option maxHeartbeats 4000000 in
theorem Zrj {K F:Nat->Prop} {d:Dk} {N T Fn Bn:Nat} (kind:Int) (w:World) (h:Dsk F w pd d N T) (aS:∀ k,F k->¬ K k) (hK:∀ k,K k->k<w.heap.size) (hN:N<=1000000) (hT:T<=1000000000) (q:SzD d Fn Bn) (bj:Fn<=900) (bl:Bn<=90000) (bq:Fn*Bn<=9000000):
 Calls prog 13 #[ptr pd,.int .i64 kind] w fun e w'=>Zwf K w pd d kind N T e w':=by
 rcases Zqs d kind with ⟨hk,j⟩ | ⟨Q,M,O,j⟩ | ⟨Q,M,O,j⟩
 ·have HE:Hid (Zwf K w pd d kind N T (.returned (.tuple #[.pointer none,.int .i64 1])) w):=ZZ (.inl ⟨by rw[j];decide,by rw[j],rfl⟩)
  clear h q j;by_cases b:kind<0
  ·have aj:decide (kind<0)=true:=decide_eq_true b
   go_enter func13,ntmps13
   go_wp2;go_ret2;exact HE.o
  ·have aj:decide (kind<0)=false:=decide_eq_false b
   have aH:decide (kind ≥ 6)=true:=decide_eq_true (by omega)
   go_enter func13,ntmps13
   go_wp2;go_ret2;exact HE.o
 ·have HE:Hid (Zwf K w pd d kind N T (.returned (.tuple #[.pointer none,.int .i64 11])) w):=ZZ (.inl ⟨by rw[j];decide,by rw[j],rfl⟩)
  have ab:Hid (Calls prog 33 #[ptr pd] w fun e w'=>e=.returned (.bool false)∧w'=w):=ZZ (by
   obtain⟨L,b,-⟩:=h;have:=ZmR w b;rw[show(d.power != 0)=false by rw[O];rfl] at this
   exact this)
  have aj:decide (kind<0)=false:=decide_eq_false (by omega)
  have aH:decide (kind ≥ 6)=false:=decide_eq_false (by omega)
  clear h q j O
  go_enter func13,ntmps13
  go_wp2_with fail
  refine ab.o.mono ?_;rintro e a ⟨rfl,rfl⟩;go_wp2;go_ret2;exact HE.o
 ·have ab:Hid (Calls prog 33 #[ptr pd] w fun e w'=>e=.returned (.bool true)∧w'=w):=ZZ (by
   obtain⟨L,b,-⟩:=h;have:=ZmR w b;rw[show(d.power != 0)=true by rw[bne_iff_ne];exact O] at this
   exact this)
  have aj:decide (kind<0)=false:=decide_eq_false (by omega)
  have aH:decide (kind ≥ 6)=false:=decide_eq_false (by omega)
  have S:OkD d:=by obtain⟨L,-,h2,-⟩:=h;exact h2
  have aF:∀ n,(Zp d n).1.length<=90000:=fun n=>Nat.le_trans (q.read n) bl
  have aM:=ZZ (Zmk kind w h hN hT aF);have aN:=ZZ (fun W (hb:Below w.heap.size w W)=>Zqc kind W (h.below hb) hN hT Q M aF (fun n f l hs=>ZvT hs) (ZxM kind q S bj bq))
  have a4:=ZZ (fun(I:Nat->Prop) rv pv x W hr hp t hi hlt hs=>Ztu I (Jm d kind) rv pv x W hr hp t hi hlt (Zrh d kind) hs (by
   have b:=(ZkP kind q S).1
   omega) (by have:=(ZkP kind q S).2;omega))
  have aa:Hid ((Yi d kind).length≠0∧(Yi d kind).length<=1000∧∀ x ∈ Yi d kind,SnS x):=ZZ ⟨fun e=>(ZfY (d:=d) Q M).2 (List.eq_nil_of_length_eq_zero e),by have:=Zts (kind:=kind) q S;omega,fun x t=>((ZfY (d:=d) Q M).1 x t).1.snS⟩
  have aX:=ZZ (Zfe (d:=d) Q M);have HD:=ZZ h;have ag:=ZZ (And.intro aS hK);have bo:=ZZ j;obtain⟨V,af⟩:∃ V,V=Zew d kind:=⟨_,rfl⟩;have aD:Hid (V=⟨((Jm d kind).behind (Gp (Yi d kind))).1,Yi d kind,((Jm d kind).behind (Gp (Yi d kind))).2,((Jm d kind).behind (Gp (Yi d kind))).1.next,0,false⟩):=ZZ af;rw[<-af] at aX;unfold Zwf;rw[<-af];clear h q O S aF j aS hK af
  go_enter func13,ntmps13
  go_wp2_with fail
  refine ab.o.mono ?_;rintro e i ⟨rfl,rfl⟩
  go_wp2_with fail
  refine aM.o.mono ?_;rintro e a ⟨bv,bs,I,v0,l0,rfl,an,D⟩;have g:=ZZ (And.intro D an);obtain⟨y,A,aW⟩:=Z8 D.row;generalize a9:bs.length=v at aW;clear a9;subst aW;obtain⟨c,u⟩:∃ c,c=a.alloc (.cells (ZtQ pd (.slice y v A)) 76):=⟨_,rfl⟩;have aR:=ZZ u;have ap:Hid (Below a.heap.size a c):=ZZ (by rw[u];exact Jw _ _)
  have ak:Hid (Below i.heap.size i c):=ZZ (D.old.trans (ap.o.mono D.old.size));have a7:Hid (Jq (fun k=>k=a.heap.size∨(Value.slice y v A).ownBlock=some k) I c a.heap.size pd ⟨.slice none 0 0,.slice none 0 0,.slice y v A,.slice none 0 0,.slice none 0 0,bs⟩ (Zqr (Yi d kind))):=ZZ (by rw[u];exact Zwd pd D an)
  have a1:c.heap.size=a.heap.size+1:=by rw[u];simp
  have a3:=ZZ a1;unfold ZtQ at u;clear D an aM ab a1
  go_upto_region 6 with fail
  rw[<-u];clear u
  go_wp2_with fail
  refine(aN.o c ak.o).mono ?_;rintro e W3 ⟨rv,pv,rfl,au,ar,aw⟩;have ao:=ZZ aw;have az:=ZZ au;have ah:=ZZ ar;have aY:=ZZ (ZqT W3 (a7.o.below aw) (by exact aa.o.1) (by have:=aa.o.2.1;exact Nat.le_trans this (by decide)))
  obtain⟨ra,rc,H⟩:=au.shape;obtain⟨pa,pc,U⟩:=Z8 ar;generalize am:(Jm d kind).recs.length=rn at H;generalize av:(Jm d kind).pcs.length=pn at U;clear am av au ar aw aN;subst H U;obtain⟨x,t⟩:∃ x,x=Zck bs:=⟨_,rfl⟩
  have G:Hid (x ∈ bs∧x.1=Gp (Yi d kind)):=ZZ (by
   rw[t];refine⟨Ziv ?_,?_⟩
   ·intro e
    have:=aa.o.1;rw[<-g.o.2,List.length_map] at this;exact this e
   ·have:=Zky (L:=⟨.slice none 0 0,.slice none 0 0,.slice y v A,.slice none 0 0,.slice none 0 0,bs⟩) (s:=Zqr (Yi d kind)) g.o.2
    exact this)
  have aE:Hid (Calls prog 37 #[ptr a.heap.size] W3 fun e w'=>e=.returned (snV x)∧Below W3.heap.size W3 w'):=ZZ (by rw[t];exact aY.o)
  clear aY t;generalize a6:snV x=sx at aE;have aK:=ZZ a6;clear a6
  go_wp2_with fail
  refine aE.o.mono ?_;rintro e B ⟨rfl,aB⟩;have X:=ZZ aB;have Y:Hid (Below c.heap.size c B):=ZZ (ao.o.trans (aB.mono ao.o.size));clear aB aE
  have aP:Hid (Calls prog 36 #[.agg #[.int .i64 (Jm d kind).first,.slice ra rn rc,.slice pa pn pc],sx] B fun e w'=>Zcq I B (.slice ra rn rc) (.slice pa pn pc) ((Jm d kind).behind (Gp (Yi d kind))) e w'):=ZZ (by
   have a5:=g.o.1.below (ap.o.trans (Y.o.mono ap.o.size));rw[<-G.o.2,<-aK.o]
   exact a4.o I _ _ x B ((az.o.below X.o zL).own0) (Qh (Zmm ah.o) fun k hk=>X.o.block k (World.ownsRow.lt ah.o k hk).2) (a5.each x G.o.1) (g.o.1.ibs x G.o.1) a5.ltI (aa.o.2.2 _ (by rw[<-g.o.2];exact List.mem_map.2 ⟨x,G.o.1,rfl⟩)))
  generalize bA:(Jm d kind).first=gf at *
  go_wp2_with fail
  refine aP.o.mono ?_;rintro e E ⟨bb,be,bx,bt,rfl,Z,ad,aO,aQ,ac,ax,ai⟩;obtain⟨R,hR⟩:∃ R,R=(Jm d kind).behind (Gp (Yi d kind)):=⟨_,rfl⟩;rw[<-hR] at aD Z ad ac ax;rw[<-hR]
  have aA:∀ k,bb.ownBlock=some k->c.heap.size<=k∧k<B.heap.size:=fun k hk=>by
   rcases aO with e | e
   ·rw[e] at hk
    have b:=World.ownsRow.lt az.o k hk;have:=X.o.size;omega
   ·rw[e] at hk;cases hk
  have ay:∀ k,be.ownBlock=some k->c.heap.size<=k∧k<B.heap.size:=fun k hk=>by
   rcases aQ with e | e
   ·rw[e] at hk
    have b:=World.ownsRow.lt ah.o k hk;have:=X.o.size;omega
   ·rw[e] at hk;cases hk
  have aq:=Zwe pd g.o.1 g.o.2 aR.o Y.o ai Z ad aA ay ac ax;obtain⟨a2,aI,H⟩:=Z.shape;obtain⟨aU,a8,U⟩:=Z8 ad;obtain⟨la,ln,lc,ta,tn,tc,aZ,aV⟩:=ac.shape
  dsimp only at aZ aV
  generalize am:R.1.recs.length=a0 at H;generalize av:R.1.pcs.length=aL at U;clear am av Z ad ac ax aO aQ;subst H U aZ aV;have aJ:Hid (Below c.heap.size c E):=ZZ (Y.o.trans (ai.mono Y.o.size))
  have m:Hid (Bk 76 E a.heap.size (ZtQ pd (.slice y v A))):=ZZ (by
   have h0:Bk 76 c a.heap.size (ZtQ pd (.slice y v A)):=by rw[aR.o];exact heap_alloc_new a _
   exact h0.keep (aJ.o.block _ (by have:=a3.o;omega)))
  obtain⟨P,J⟩:∃ P,P=Zop E a.heap.size (.int .i64 R.1.first) (.slice a2 a0 aI) (.slice aU aL a8) (.int .i64 R.2.idx) (.int .i64 R.2.st.kind) (.slice la ln lc) (.bool R.2.st.shut) (.int .i64 R.2.st.eng) (.slice ta tn tc):=⟨_,rfl⟩;have bg:Hid (Ql (fun k=>k=a.heap.size) E P):=ZZ (by rw[J];exact ZkT _ _ _ _ _ _ _ _ _ _ _)
  rw[<-J] at aq;have aC:Hid (i.heap.size<=a.heap.size):=ZZ g.o.1.old.size;have aT:Hid (Below i.heap.size i E):=ZZ (ak.o.trans (aJ.o.mono ak.o.size));have ae:Hid (Below i.heap.size i P):=ZZ (aT.o.trans (bg.o.below aT.o.size (fun k hk=>by rw[hk];exact aC.o)))
  have aG:Hid (SD K P pd a.heap.size ⟨R.1,Yi d kind,R.2,0,0,false⟩ d N T):=ZZ (by
   have bz:=aC.o;have br:=a3.o;have bB:=Y.o.size
   have hM:∀ k,(k=a.heap.size∨(Value.slice a2 a0 aI).ownBlock=some k∨(Value.slice aU aL a8).ownBlock=some k∨(Value.slice y v A).ownBlock=some k)->i.heap.size<=k:=fun k hk=>by
    rcases hk with hk | hk | hk | hk
    ·omega
    ·have:=aA k hk;omega
    ·have:=ay k hk;omega
    ·exact g.o.1.far k hk
   have hI:∀ k,(I k∨(B.heap.size<=k∧k<E.heap.size))->i.heap.size<=k:=fun k hk=>by
    rcases hk with hk | hk
    ·exact g.o.1.lo k hk
    ·omega
   refine⟨F,_,_,_,HD.o.below ae.o,aq,ag.o.1,fun k hk z=>?_,fun k hk z=>?_,fun k hk z=>?_,fun k hk z=>?_⟩
   ·have:=hM k hk;have:=ag.o.2 k z;omega
   ·have:=hI k hk;have:=ag.o.2 k z;omega
   ·have:=hM k z;have:=HD.o.ltF k hk;omega
   ·have:=hI k z;have:=HD.o.ltF k hk;omega)
  have bk:Hid (ZpE ⟨R.1,Yi d kind,R.2,0,0,false⟩):=ZZ (by
   have b:=aX.o.num;rw[aD.o] at b
   exact⟨b.f0,b.f1,(Qo (by decide) (by decide):I64 0),(Qo (by decide) (by decide):I64 0)⟩)
  have al:=ZZ (aG.o.next bk.o);have bp:Hid ((⟨R.1,Yi d kind,R.2,0,0,false⟩:Sto).next=R.1.next):=ZZ rfl;rw[bp.o] at al;obtain⟨z1,y1⟩:=m.o.cell 1 rfl;obtain⟨z2,y2⟩:=m.o.cell 2 rfl;obtain⟨z3,y3⟩:=m.o.cell 3 rfl;obtain⟨z5,y5⟩:=m.o.cell 5 rfl;obtain⟨z6,y6⟩:=m.o.cell 6 rfl;obtain⟨z7,y7⟩:=m.o.cell 7 rfl;obtain⟨z8,y8⟩:=m.o.cell 8 rfl;obtain⟨z9,y9⟩:=m.o.cell 9 rfl;obtain⟨bi,bm⟩:=m.o.cell 10 rfl;unfold snV snC
  dsimp only
  unfold Zop at J;clear aq aA ay ai aP a4 hR g a7 G aK az ah X ao
  go_upto_region 7 with fail
  rw[<-J];clear J z1 y1 z2 y2 z3 y3 z5 y5 z6 y6 z7 y7 z8 y8 z9 y9 bi bm
  go_wp2_with fail
  refine al.o.mono ?_;rintro e W7 ⟨rfl,C⟩;have bw:=ZZ C;obtain⟨⟨-,bh,-,-⟩,fz⟩:=(aG.o.below C).cells;have bu:=fz 11
  have bd:Hid (SD K (W7.setCell ⟨a.heap.size,11,none⟩ (.int .i64 R.1.next)) pd a.heap.size V d N T):=ZZ (by
   have b:=((aG.o.below C).synced (fun k hk=>by have:=ag.o.2 k hk;have:=ae.o.size;have:=C.size;omega)).1
   have e:V=Ye ⟨R.1,Yi d kind,R.2,0,0,false⟩:=by rw[aD.o];rfl
   rw[e]
   exact b)
  have bf:Hid (Below i.heap.size i (W7.setCell ⟨a.heap.size,11,none⟩ (.int .i64 R.1.next))):=ZZ ((ae.o.trans (C.mono ae.o.size)).setCell (p:=⟨a.heap.size,11,none⟩) aC.o _);generalize R.1.next=nx at *
  dsimp only at bh
  clear C fz al;go_wp2;go_ret2;exact .inr ⟨bo.o,_,rfl,bd.o,bf.o⟩
end Go.Proofs.YtnahjngbneicaaaGreatDoor
