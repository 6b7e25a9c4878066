import Derived.Test.YtnahjngbneicaaaGreatDoorStoreX
namespace Go.Proofs.YtnahjngbneicaaaGreatDoor
open _root_.Go.Proofs.Tryz
set_option maxRecDepth 100000
open Go.RowKit
variable {a w:World} {I:Nat->Prop} {bv:Value} {bs:List (ZaW × Value × Value)} {bases:List ZaW} {pd:Nat}
def ZsN (b:List ZaW):Sto:=⟨ZeI,b,Zbl,0,0,false⟩
def Zwb (pd:Nat) (bv:Value):Array Value:=
 #[ptr pd,.int .i64 0,.slice none 0 0,.slice none 0 0,bv,.int .i64 0,.int .i64 0,.slice none 0 0,.bool false,.int .i64 0,.slice none 0 0,.int .i64 0,.int .i64 0,.bool false]
theorem Zyr {j:Value} {i:List Int} (pd:Nat) (h:Zdb w I j i bv bs a) (e:bs.map Prod.fst=bases):
 ZeO (fun k=>k=a.heap.size∨bv.ownBlock=some k) I (a.alloc (.cells (Zwb pd bv) 76)) a.heap.size pd ⟨.slice none 0 0,.slice none 0 0,bv,.slice none 0 0,.slice none 0 0,bs⟩ (ZsN bases):=by
 have f:=ZcW a (.cells (Zwb pd bv) 76);have l:(a.alloc (.cells (Zwb pd bv) 76)).heap.size=a.heap.size+1:=by simp
 have c:=h.below f;refine⟨heap_alloc_new a _,Zbq.nil _ _,World.ownsRow_nil _ _ _ _,c.row,e,⟨RdI.nil _,RdE.nil _,(Zai (by decide) (by decide):I64 0),(Zai (by decide) (by decide):I64 0),(Zai (by decide) (by decide):I64 0)⟩,c.each,.inl rfl,(fun g b=>by cases b),(fun g b=>by cases b),fun g b=>.inr b,⟨.inl rfl,.inl rfl⟩,c.ibs,fun k hk=>?_,c.ltI,fun k hk d=>?_⟩
 ·rcases hk with hk | hk
  ·omega
  ·exact c.ltB k hk
 ·rcases hk with hk | hk
  ·have:=h.ltI k d
   omega
  ·exact h.dis k d hk
def ZqR (W:World) (p:Nat) (f rv pv x0 x1 x2 x3 x4 x5:Value):World:=
 ((((((((W.setCell ⟨p,1,none⟩ f).setCell ⟨p,2,none⟩ rv).setCell ⟨p,3,none⟩ pv).setCell ⟨p,5,none⟩ x0).setCell ⟨p,6,none⟩ x1).setCell ⟨p,7,none⟩ x2).setCell ⟨p,8,none⟩ x3).setCell ⟨p,9,none⟩ x4).setCell ⟨p,10,none⟩ x5
theorem ZnE (W:World) (p:Nat) (f rv pv c g e b d h:Value):Zap (fun k=>k=p) W (ZqR W p f rv pv c g e b d h):=by
 have a:p<W.heap.size->(fun k=>k=p) p:=fun _=>rfl
 exact(((((((((Zap.refl (fun k=>k=p) W).setCell 1 a f).setCell 2 a rv).setCell 3 a pv).setCell 5 a c).setCell 6 a g).setCell 7 a e).setCell 8 a b).setCell 9 a d).setCell 10 a h
theorem ZvQ {W:World} {p:Nat} (h:Bk 76 W p (Zwb pd bv)) (f rv pv c g e a d b:Value):Bk 76 (ZqR W p f rv pv c g e a d b) p #[ptr pd,f,rv,pv,bv,c,g,e,a,d,b,.int .i64 0,.int .i64 0,.bool false]:=by
 have i:=((((((((h.set 1 f).set 2 rv).set 3 pv).set 5 c).set 6 g).set 7 e).set 8 a).set 9 d).set 10 b;simp only [Zwb,List.setIfInBounds_toArray,List.set_cons_zero,List.set_cons_succ] at i;unfold ZqR;exact i
theorem Zys {c d b:World} {N:Value} {K:List Int} {rv pv e f:Value} {r:Lgb × ZaW} (pd:Nat) (h:Zdb w I N K bv bs a) (C:bs.map Prod.fst=bases) (n:c=a.alloc (.cells (Zwb pd bv) 76))
 (u:Below c.heap.size c d) (z:Below d.heap.size d b) (L:Zbq b 0 rv r.1.recs) (M:b.ownsRow 0 108 3 pv r.1.pcs.length (Zau r.1.pcs)) (m:∀ k,rv.ownBlock=some k->c.heap.size<=k∧k<d.heap.size) (j:∀ k,pv.ownBlock=some k->c.heap.size<=k∧k<d.heap.size)
 (J:SnR b (r.2,e,f)) (A:ZoR (fun k=>I k∨(d.heap.size<=k∧k<b.heap.size)) (r.2,e,f)):
 ZeO (fun k=>k=a.heap.size∨rv.ownBlock=some k∨pv.ownBlock=some k∨bv.ownBlock=some k) (fun k=>I k∨(d.heap.size<=k∧k<b.heap.size)) (ZqR b a.heap.size (.int .i64 r.1.first) rv pv (.int .i64 r.2.idx) (.int .i64 r.2.st.kind) e (.bool r.2.st.shut) (.int .i64 r.2.st.eng) f) a.heap.size pd ⟨rv,pv,bv,e,f,bs⟩ ⟨r.1,bases,r.2,0,0,false⟩:=by
 have y:Below a.heap.size a c:=by rw[n];exact ZcW _ _
 have Q:c.heap.size=a.heap.size+1:=by rw[n];simp
 have P:=u.size;have S:=z.size;have B:Below c.heap.size c b:=u.trans (z.mono u.size);have D:Below a.heap.size a b:=y.trans (B.mono y.size);have p:=h.below D
 have G:Bk 76 b a.heap.size (Zwb pd bv):=by
  have F:Bk 76 c a.heap.size (Zwb pd bv):=by rw[n];exact heap_alloc_new a _
  exact F.keep (B.block _ (by omega))
 have t:=ZnE b a.heap.size (.int .i64 r.1.first) rv pv (.int .i64 r.2.idx) (.int .i64 r.2.st.kind) e (.bool r.2.st.shut) (.int .i64 r.2.st.eng) f
 have v:Bk 76 (ZqR b a.heap.size (.int .i64 r.1.first) rv pv (.int .i64 r.2.idx) (.int .i64 r.2.st.kind) e (.bool r.2.st.shut) (.int .i64 r.2.st.eng) f) a.heap.size (stC pd ⟨rv,pv,bv,e,f,bs⟩ ⟨r.1,bases,r.2,0,0,false⟩):=
  ZvQ G _ _ _ _ _ _ _ _ _
 obtain⟨q,E⟩:∃ q,q=ZqR b a.heap.size (.int .i64 r.1.first) rv pv (.int .i64 r.2.idx) (.int .i64 r.2.st.kind) e (.bool r.2.st.shut) (.int .i64 r.2.st.eng) f:=⟨_,rfl⟩;rw[<-E] at t v ⊢;have R:=t.size;have i:∀ k,k<b.heap.size->k≠a.heap.size->q.heap[k]?=b.heap[k]?:=fun k O H=>t.block k O H
 have g:∀ k,(I k∨(d.heap.size<=k∧k<b.heap.size))->k<b.heap.size∧k≠a.heap.size:=fun k hk'=>by
  rcases hk' with hk' | hk'
  ·have:=h.ltI k hk'
   omega
  ·omega
 refine⟨v,Zae L fun k hk'=>i k (by have:=m k hk';omega) (by have:=m k hk';omega),Zae M fun k hk'=>i k (by have:=j k hk';omega) (by have:=j k hk';omega),Zae p.row fun k hk'=>i k (p.ltB k hk') (by have:=h.ltB k hk';omega),C,?_,?_,.inl rfl,fun k hk'=>.inr (.inl hk'),fun k hk'=>.inr (.inr (.inl hk')),fun k hk'=>.inr (.inr (.inr hk')),A,fun x l=>(h.ibs x l).mono (fun k hk'=>.inl hk'),fun k hk'=>?_,fun k hk'=>?_,fun k hk' hi'=>?_⟩
 ·exact J.keep A fun k hk'=>i k (g k hk').1 (g k hk').2
 ·exact fun x l=>(p.each x l).keep (h.ibs x l) fun k hk'=>i k (g k (.inl hk')).1 (g k (.inl hk')).2
 ·rcases hk' with hk' | hk' | hk' | hk'
  ·omega
  ·have:=m k hk';omega
  ·have:=j k hk';omega
  ·have:=h.ltB k hk';omega
 ·have:=(g k hk').1
  omega
 ·rcases hk' with hk' | hk' | hk' | hk'
  ·exact(g k hi').2 hk'
  ·have:=m k hk'
   rcases hi' with hi' | hi'
   ·have:=h.ltI k hi';omega
   ·omega
  ·have:=j k hk'
   rcases hi' with hi' | hi'
   ·have:=h.ltI k hi';omega
   ·omega
  ·rcases hi' with hi' | hi'
   ·exact h.dis k hi' hk'
   ·have:=h.ltB k hk';omega
theorem ZoP {B n s:Nat} {t:TypeId} {v:Value} {xs:List Value} (h:w.ownsRow B t s v n xs):w.ownsRow 0 t s v n xs:=ZdT h fun _ _=>Nat.zero_le _
def Zyt (K:Nat->Prop) (w:World) (pd:Nat) (d:Dk) (kind:Int) (N T:Nat) (e:Ending) (w':World):Prop:=
 (ZiA d kind≠0∧e=.returned (.tuple #[.pointer none,.int .i64 (ZiA d kind)])∧w'=w)∨
 (ZiA d kind=0∧∃ p,e=.returned (.tuple #[ptr p,.int .i64 0])∧SD K w' pd p (ZjD d kind) d N T∧Below w.heap.size w w')
theorem ZsO (d:Dk) (kind:Int):(kind<0∨6<=kind)∧ZiA d kind=1∨(0<=kind∧kind<6∧d.power=0∧ZiA d kind=11)∨(0<=kind∧kind<6∧d.power≠0∧ZiA d kind=0):=by
 unfold ZiA;by_cases h:kind<0∨6<=kind
 ·exact .inl ⟨h,if_pos h⟩
 ·rw[if_neg h]
  by_cases a:d.power=0
  ·exact .inr (.inl ⟨by omega,by omega,a,if_pos a⟩)
  ·exact .inr (.inr ⟨by omega,by omega,a,if_neg a⟩)
set_option maxHeartbeats 4000000 in
theorem ZtJ {K F:Nat->Prop} {d:Dk} {N T Fn Bn:Nat} (kind:Int) (w:World) (h:Dsk F w pd d N T) (aU:∀ k,F k->¬ K k) (hK:∀ k,K k->k<w.heap.size) (hN:N<=1000000) (hT:T<=1000000000) (q:SzD d Fn Bn) (bl:Fn<=900) (a9:Bn<=90000) (bd:Fn*Bn<=9000000):
 Calls prog 13 #[ptr pd,.int .i64 kind] w fun e w'=>Zyt K w pd d kind N T e w':=by
 rcases ZsO d kind with ⟨hk,j⟩ | ⟨J,P,O,j⟩ | ⟨J,P,O,j⟩
 ·have HE:Hid (Zyt K w pd d kind N T (.returned (.tuple #[.pointer none,.int .i64 1])) w):=ZZ (.inl ⟨by rw[j];decide,by rw[j],rfl⟩)
  clear h q j;by_cases b:kind<0
  ·have aD:decide (kind<0)=true:=decide_eq_true b
   go_enter func13,ntmps13
   go_wp2;go_ret2;exact HE.o
  ·have aD:decide (kind<0)=false:=decide_eq_false b
   have a5:decide (kind ≥ 6)=true:=decide_eq_true (by omega)
   go_enter func13,ntmps13
   go_wp2;go_ret2;exact HE.o
 ·have HE:Hid (Zyt K w pd d kind N T (.returned (.tuple #[.pointer none,.int .i64 11])) w):=ZZ (.inl ⟨by rw[j];decide,by rw[j],rfl⟩)
  have ag:Hid (Calls prog 33 #[ptr pd] w fun e w'=>e=.returned (.bool false)∧w'=w):=ZZ (by
   obtain⟨L,b,-⟩:=h;have:=Zpq w b;rw[show(d.power != 0)=false by rw[O];rfl] at this
   exact this)
  have aD:decide (kind<0)=false:=decide_eq_false (by omega)
  have a5:decide (kind ≥ 6)=false:=decide_eq_false (by omega)
  clear h q j O
  go_enter func13,ntmps13
  go_wp2_with fail
  refine ag.o.mono ?_;rintro e a ⟨rfl,rfl⟩;go_wp2;go_ret2;exact HE.o
 ·have ag:Hid (Calls prog 33 #[ptr pd] w fun e w'=>e=.returned (.bool true)∧w'=w):=ZZ (by
   obtain⟨L,b,-⟩:=h;have:=Zpq w b;rw[show(d.power != 0)=true by rw[bne_iff_ne];exact O] at this
   exact this)
  have aD:decide (kind<0)=false:=decide_eq_false (by omega)
  have a5:decide (kind ≥ 6)=false:=decide_eq_false (by omega)
  have Y:OkD d:=by obtain⟨L,-,h2,-⟩:=h;exact h2
  have ak:∀ n,(Zdc d n).1.length<=90000:=fun n=>Nat.le_trans (q.read n) a9
  have aH:=ZZ (ZoN kind w h hN hT ak);have aI:=ZZ (fun W (hb:Below w.heap.size w W)=>Zsx kind W (h.below hb) hN hT J P ak (fun n f l hs=>Zyg hs) (ZzW kind q Y bl bd))
  have aY:=ZZ (fun(I:Nat->Prop) rv pv x W hr hp v hi hlt hs=>ZvP I (Zji d kind) rv pv x W hr hp v hi hlt (ZtH d kind) hs (by
   have b:=(Zny kind q Y).1
   omega) (by have:=(Zny kind q Y).2;omega))
  have ad:Hid ((Zbr d kind).length≠0∧(Zbr d kind).length<=1000∧∀ x ∈ Zbr d kind,SnS x):=ZZ ⟨fun e=>(ZiV (d:=d) J P).2 (List.eq_nil_of_length_eq_zero e),by have:=ZvN (kind:=kind) q Y;omega,fun x v=>((ZiV (d:=d) J P).1 x v).1.snS⟩
  have aS:=ZZ (Zij (d:=d) J P);have HD:=ZZ h;have af:=ZZ (And.intro aU hK);have bi:=ZZ j;obtain⟨M,ae⟩:∃ M,M=ZjD d kind:=⟨_,rfl⟩;have aA:Hid (M=⟨((Zji d kind).behind (Zef (Zbr d kind))).1,Zbr d kind,((Zji d kind).behind (Zef (Zbr d kind))).2,((Zji d kind).behind (Zef (Zbr d kind))).1.next,0,false⟩):=ZZ ae;rw[<-ae] at aS;unfold Zyt;rw[<-ae];clear h q O Y ak j aU hK ae
  go_enter func13,ntmps13
  go_wp2_with fail
  refine ag.o.mono ?_;rintro e g ⟨rfl,rfl⟩
  go_wp2_with fail
  refine aH.o.mono ?_;rintro e a ⟨bv,bs,I,v0,l0,rfl,an,D⟩;have i:=ZZ (And.intro D an);obtain⟨y,A,a0⟩:=ZbW D.row;generalize be:bs.length=u at a0;clear be;subst a0;obtain⟨c,B⟩:∃ c,c=a.alloc (.cells (Zwb pd (.slice y u A)) 76):=⟨_,rfl⟩;have aZ:=ZZ B;have aG:Hid (Below a.heap.size a c):=ZZ (by rw[B];exact ZcW _ _)
  have aw:Hid (Below g.heap.size g c):=ZZ (D.old.trans (aG.o.mono D.old.size));have aW:Hid (ZeO (fun k=>k=a.heap.size∨(Value.slice y u A).ownBlock=some k) I c a.heap.size pd ⟨.slice none 0 0,.slice none 0 0,.slice y u A,.slice none 0 0,.slice none 0 0,bs⟩ (ZsN (Zbr d kind))):=ZZ (by rw[B];exact Zyr pd D an)
  have a1:c.heap.size=a.heap.size+1:=by rw[B];simp
  have a4:=ZZ a1;unfold Zwb at B;clear D an aH ag a1
  go_upto_region 6 with fail
  rw[<-B];clear B
  go_wp2_with fail
  refine(aI.o c aw.o).mono ?_;rintro e W3 ⟨rv,pv,rfl,az,au,aj⟩;have ax:=ZZ aj;have aq:=ZZ az;have Z:=ZZ au;have a8:=ZZ (Ztt W3 (aW.o.below aj) (by exact ad.o.1) (by have:=ad.o.2.1;exact Nat.le_trans this (by decide)))
  obtain⟨ra,rc,G⟩:=az.shape;obtain⟨pa,pc,S⟩:=ZbW au;generalize ap:(Zji d kind).recs.length=rn at G;generalize am:(Zji d kind).pcs.length=pn at S;clear ap am az au aj aI;subst G S;obtain⟨x,v⟩:∃ x,x=Zfy bs:=⟨_,rfl⟩
  have X:Hid (x ∈ bs∧x.1=Zef (Zbr d kind)):=ZZ (by
   rw[v];refine⟨Zlm ?_,?_⟩
   ·intro e
    have:=ad.o.1;rw[<-i.o.2,List.length_map] at this;exact this e
   ·have:=Znh (L:=⟨.slice none 0 0,.slice none 0 0,.slice y u A,.slice none 0 0,.slice none 0 0,bs⟩) (s:=ZsN (Zbr d kind)) i.o.2
    exact this)
  have aF:Hid (Calls prog 37 #[ptr a.heap.size] W3 fun e w'=>e=.returned (snV x)∧Below W3.heap.size W3 w'):=ZZ (by rw[v];exact a8.o)
  clear a8 v;generalize aQ:snV x=sx at aF;have aT:=ZZ aQ;clear aQ
  go_wp2_with fail
  refine aF.o.mono ?_;rintro e t ⟨rfl,aC⟩;have U:=ZZ aC;have V:Hid (Below c.heap.size c t):=ZZ (ax.o.trans (aC.mono ax.o.size));clear aC aF
  have aN:Hid (Calls prog 36 #[.agg #[.int .i64 (Zji d kind).first,.slice ra rn rc,.slice pa pn pc],sx] t fun e w'=>ZfE I t (.slice ra rn rc) (.slice pa pn pc) ((Zji d kind).behind (Zef (Zbr d kind))) e w'):=ZZ (by
   have aK:=i.o.1.below (aG.o.trans (V.o.mono aG.o.size));rw[<-X.o.2,<-aT.o]
   exact aY.o I _ _ x t ((aq.o.below U.o zL).own0) (Zae (ZoP Z.o) fun k hk=>U.o.block k (World.ownsRow.lt Z.o k hk).2) (aK.each x X.o.1) (i.o.1.ibs x X.o.1) aK.ltI (ad.o.2.2 _ (by rw[<-i.o.2];exact List.mem_map.2 ⟨x,X.o.1,rfl⟩)))
  generalize bt:(Zji d kind).first=gf at *
  go_wp2_with fail
  refine aN.o.mono ?_;rintro e E ⟨bf,bj,br,bB,rfl,aa,ab,a6,aJ,ah,av,al⟩;obtain⟨R,hR⟩:∃ R,R=(Zji d kind).behind (Zef (Zbr d kind)):=⟨_,rfl⟩;rw[<-hR] at aA aa ab ah av;rw[<-hR]
  have aB:∀ k,bf.ownBlock=some k->c.heap.size<=k∧k<t.heap.size:=fun k hk=>by
   rcases a6 with e | e
   ·rw[e] at hk
    have b:=World.ownsRow.lt aq.o k hk;have:=U.o.size;omega
   ·rw[e] at hk;cases hk
  have ao:∀ k,bj.ownBlock=some k->c.heap.size<=k∧k<t.heap.size:=fun k hk=>by
   rcases aJ with e | e
   ·rw[e] at hk
    have b:=World.ownsRow.lt Z.o k hk;have:=U.o.size;omega
   ·rw[e] at hk;cases hk
  have ar:=Zys pd i.o.1 i.o.2 aZ.o V.o al aa ab aB ao ah av;obtain⟨aM,a3,G⟩:=aa.shape;obtain⟨aX,aP,S⟩:=ZbW ab;obtain⟨la,ln,lc,ta,tn,tc,aL,aO⟩:=ah.shape
  dsimp only at aL aO
  generalize ap:R.1.recs.length=a7 at G;generalize am:R.1.pcs.length=a2 at S;clear ap am aa ab ah av a6 aJ;subst G S aL aO;have aV:Hid (Below c.heap.size c E):=ZZ (V.o.trans (al.mono V.o.size))
  have m:Hid (Bk 76 E a.heap.size (Zwb pd (.slice y u A))):=ZZ (by
   have h0:Bk 76 c a.heap.size (Zwb pd (.slice y u A)):=by rw[aZ.o];exact heap_alloc_new a _
   exact h0.keep (aV.o.block _ (by have:=a4.o;omega)))
  obtain⟨H,Q⟩:∃ H,H=ZqR E a.heap.size (.int .i64 R.1.first) (.slice aM a7 a3) (.slice aX a2 aP) (.int .i64 R.2.idx) (.int .i64 R.2.st.kind) (.slice la ln lc) (.bool R.2.st.shut) (.int .i64 R.2.st.eng) (.slice ta tn tc):=⟨_,rfl⟩;have bg:Hid (Zap (fun k=>k=a.heap.size) E H):=ZZ (by rw[Q];exact ZnE _ _ _ _ _ _ _ _ _ _ _)
  rw[<-Q] at ar;have ai:Hid (g.heap.size<=a.heap.size):=ZZ i.o.1.old.size;have aR:Hid (Below g.heap.size g E):=ZZ (aw.o.trans (aV.o.mono aw.o.size));have ac:Hid (Below g.heap.size g H):=ZZ (aR.o.trans (bg.o.below aR.o.size (fun k hk=>by rw[hk];exact ai.o)))
  have ay:Hid (SD K H pd a.heap.size ⟨R.1,Zbr d kind,R.2,0,0,false⟩ d N T):=ZZ (by
   have bw:=ai.o;have bx:=a4.o;have bu:=V.o.size
   have hM:∀ k,(k=a.heap.size∨(Value.slice aM a7 a3).ownBlock=some k∨(Value.slice aX a2 aP).ownBlock=some k∨(Value.slice y u A).ownBlock=some k)->g.heap.size<=k:=fun k hk=>by
    rcases hk with hk | hk | hk | hk
    ·omega
    ·have:=aB k hk;omega
    ·have:=ao k hk;omega
    ·exact i.o.1.far k hk
   have hI:∀ k,(I k∨(t.heap.size<=k∧k<E.heap.size))->g.heap.size<=k:=fun k hk=>by
    rcases hk with hk | hk
    ·exact i.o.1.lo k hk
    ·omega
   refine⟨F,_,_,_,HD.o.below ac.o,ar,af.o.1,fun k hk z=>?_,fun k hk z=>?_,fun k hk z=>?_,fun k hk z=>?_⟩
   ·have:=hM k hk;have:=af.o.2 k z;omega
   ·have:=hI k hk;have:=af.o.2 k z;omega
   ·have:=hM k z;have:=HD.o.ltF k hk;omega
   ·have:=hI k z;have:=HD.o.ltF k hk;omega)
  have bo:Hid (ZrZ ⟨R.1,Zbr d kind,R.2,0,0,false⟩):=ZZ (by
   have b:=aS.o.num;rw[aA.o] at b
   exact⟨b.f0,b.f1,(Zai (by decide) (by decide):I64 0),(Zai (by decide) (by decide):I64 0)⟩)
  have aE:=ZZ (ay.o.next bo.o);have bq:Hid ((⟨R.1,Zbr d kind,R.2,0,0,false⟩:Sto).next=R.1.next):=ZZ rfl;rw[bq.o] at aE;obtain⟨z1,y1⟩:=m.o.cell 1 rfl;obtain⟨z2,y2⟩:=m.o.cell 2 rfl;obtain⟨z3,y3⟩:=m.o.cell 3 rfl;obtain⟨z5,y5⟩:=m.o.cell 5 rfl;obtain⟨z6,y6⟩:=m.o.cell 6 rfl;obtain⟨z7,y7⟩:=m.o.cell 7 rfl;obtain⟨z8,y8⟩:=m.o.cell 8 rfl;obtain⟨z9,y9⟩:=m.o.cell 9 rfl;obtain⟨bk,bb⟩:=m.o.cell 10 rfl;unfold snV snC
  dsimp only
  unfold ZqR at Q;clear ar aB ao al aN aY hR i aW X aT aq Z U ax
  go_upto_region 7 with fail
  rw[<-Q];clear Q z1 y1 z2 y2 z3 y3 z5 y5 z6 y6 z7 y7 z8 y8 z9 y9 bk bb
  go_wp2_with fail
  refine aE.o.mono ?_;rintro e W7 ⟨rfl,C⟩;have bA:=ZZ C;obtain⟨⟨-,bm,-,-⟩,fz⟩:=(ay.o.below C).cells;have bz:=fz 11
  have bp:Hid (SD K (W7.setCell ⟨a.heap.size,11,none⟩ (.int .i64 R.1.next)) pd a.heap.size M d N T):=ZZ (by
   have b:=((ay.o.below C).synced (fun k hk=>by have:=af.o.2 k hk;have:=ac.o.size;have:=C.size;omega)).1
   have e:M=ZeJ ⟨R.1,Zbr d kind,R.2,0,0,false⟩:=by rw[aA.o];rfl
   rw[e]
   exact b)
  have bh:Hid (Below g.heap.size g (W7.setCell ⟨a.heap.size,11,none⟩ (.int .i64 R.1.next))):=ZZ ((ac.o.trans (C.mono ac.o.size)).setCell (p:=⟨a.heap.size,11,none⟩) ai.o _);generalize R.1.next=nx at *
  dsimp only at bm
  clear C fz aE;go_wp2;go_ret2;exact .inr ⟨bi.o,_,rfl,bp.o,bh.o⟩
end Go.Proofs.YtnahjngbneicaaaGreatDoor
