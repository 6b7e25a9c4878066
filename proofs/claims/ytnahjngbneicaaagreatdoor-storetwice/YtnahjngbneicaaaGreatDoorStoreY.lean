import Derived.Test.YtnahjngbneicaaaGreatDoorStoreX
namespace Go.Proofs.YtnahjngbneicaaaGreatDoor
open _root_.Go.Proofs.Tryz
set_option maxRecDepth 100000
open Go.RowKit
variable {a w:World} {I:Nat->Prop} {bv:Value} {bs:List (Qv × Value × Value)} {bases:List Qv} {pd:Nat}
def Zpx (b:List Qv):Sto:=⟨Zbv,b,Xr,0,0,false⟩
def ZsL (pd:Nat) (bv:Value):Array Value:=
 #[ptr pd,.int .i64 0,.slice none 0 0,.slice none 0 0,bv,.int .i64 0,.int .i64 0,.slice none 0 0,.bool false,.int .i64 0,.slice none 0 0,.int .i64 0,.int .i64 0,.bool false]
theorem Zvb {i:Value} {e:List Int} (pd:Nat) (h:Jr w I i e bv bs a) (j:bs.map Prod.fst=bases):
 Z0 (fun k=>k=a.heap.size∨bv.ownBlock=some k) I (a.alloc (.cells (ZsL pd bv) 76)) a.heap.size pd ⟨.slice none 0 0,.slice none 0 0,bv,.slice none 0 0,.slice none 0 0,bs⟩ (Zpx bases):=by
 have f:=Jc a (.cells (ZsL pd bv) 76);have l:(a.alloc (.cells (ZsL pd bv) 76)).heap.size=a.heap.size+1:=by simp
 have c:=h.below f;refine⟨heap_alloc_new a _,Q9.nil _ _,World.ownsRow_nil _ _ _ _,c.row,j,⟨RdI.nil _,RdE.nil _,(Qk (by decide) (by decide):I64 0),(Qk (by decide) (by decide):I64 0),(Qk (by decide) (by decide):I64 0)⟩,c.each,.inl rfl,(fun g b=>by cases b),(fun g b=>by cases b),fun g b=>.inr b,⟨.inl rfl,.inl rfl⟩,c.ibs,fun k hk=>?_,c.ltI,fun k hk d=>?_⟩
 ·rcases hk with hk | hk
  ·omega
  ·exact c.ltB k hk
 ·rcases hk with hk | hk
  ·have:=h.ltI k d
   omega
  ·exact h.dis k d hk
def ZnB (W:World) (p:Nat) (f rv pv x0 x1 x2 x3 x4 x5:Value):World:=
 ((((((((W.setCell ⟨p,1,none⟩ f).setCell ⟨p,2,none⟩ rv).setCell ⟨p,3,none⟩ pv).setCell ⟨p,5,none⟩ x0).setCell ⟨p,6,none⟩ x1).setCell ⟨p,7,none⟩ x2).setCell ⟨p,8,none⟩ x3).setCell ⟨p,9,none⟩ x4).setCell ⟨p,10,none⟩ x5
theorem Zko (W:World) (p:Nat) (f rv pv c d b g i e:Value):Qj (fun k=>k=p) W (ZnB W p f rv pv c d b g i e):=by
 have a:p<W.heap.size->(fun k=>k=p) p:=fun _=>rfl
 exact(((((((((Qj.refl (fun k=>k=p) W).setCell 1 a f).setCell 2 a rv).setCell 3 a pv).setCell 5 a c).setCell 6 a d).setCell 7 a b).setCell 8 a g).setCell 9 a i).setCell 10 a e
theorem ZsA {W:World} {p:Nat} (h:Bk 76 W p (ZsL pd bv)) (f rv pv c d b g a e:Value):Bk 76 (ZnB W p f rv pv c d b g a e) p #[ptr pd,f,rv,pv,bv,c,d,b,g,a,e,.int .i64 0,.int .i64 0,.bool false]:=by
 have i:=((((((((h.set 1 f).set 2 rv).set 3 pv).set 5 c).set 6 d).set 7 b).set 8 g).set 9 a).set 10 e;simp only [ZsL,List.setIfInBounds_toArray,List.set_cons_zero,List.set_cons_succ] at i;unfold ZnB;exact i
theorem Zvc {c e b:World} {H:Value} {D:List Int} {rv pv f d:Value} {r:Lgb × Qv} (pd:Nat) (h:Jr w I H D bv bs a) (M:bs.map Prod.fst=bases) (u:c=a.alloc (.cells (ZsL pd bv) 76))
 (n:Below c.heap.size c e) (z:Below e.heap.size e b) (G:Q9 b 0 rv r.1.recs) (C:b.ownsRow 0 108 3 pv r.1.pcs.length (Qx r.1.pcs)) (m:∀ k,rv.ownBlock=some k->c.heap.size<=k∧k<e.heap.size) (l:∀ k,pv.ownBlock=some k->c.heap.size<=k∧k<e.heap.size)
 (O:SnR b (r.2,f,d)) (v:ZlB (fun k=>I k∨(e.heap.size<=k∧k<b.heap.size)) (r.2,f,d)):
 Z0 (fun k=>k=a.heap.size∨rv.ownBlock=some k∨pv.ownBlock=some k∨bv.ownBlock=some k) (fun k=>I k∨(e.heap.size<=k∧k<b.heap.size)) (ZnB b a.heap.size (.int .i64 r.1.first) rv pv (.int .i64 r.2.idx) (.int .i64 r.2.st.kind) f (.bool r.2.st.shut) (.int .i64 r.2.st.eng) d) a.heap.size pd ⟨rv,pv,bv,f,d,bs⟩ ⟨r.1,bases,r.2,0,0,false⟩:=by
 have y:Below a.heap.size a c:=by rw[u];exact Jc _ _
 have P:c.heap.size=a.heap.size+1:=by rw[u];simp
 have Q:=n.size;have S:=z.size;have A:Below c.heap.size c b:=n.trans (z.mono n.size);have F:Below a.heap.size a b:=y.trans (A.mono y.size);have p:=h.below F
 have J:Bk 76 b a.heap.size (ZsL pd bv):=by
  have L:Bk 76 c a.heap.size (ZsL pd bv):=by rw[u];exact heap_alloc_new a _
  exact L.keep (A.block _ (by omega))
 have t:=Zko b a.heap.size (.int .i64 r.1.first) rv pv (.int .i64 r.2.idx) (.int .i64 r.2.st.kind) f (.bool r.2.st.shut) (.int .i64 r.2.st.eng) d
 have B:Bk 76 (ZnB b a.heap.size (.int .i64 r.1.first) rv pv (.int .i64 r.2.idx) (.int .i64 r.2.st.kind) f (.bool r.2.st.shut) (.int .i64 r.2.st.eng) d) a.heap.size (stC pd ⟨rv,pv,bv,f,d,bs⟩ ⟨r.1,bases,r.2,0,0,false⟩):=
  ZsA J _ _ _ _ _ _ _ _ _
 obtain⟨q,E⟩:∃ q,q=ZnB b a.heap.size (.int .i64 r.1.first) rv pv (.int .i64 r.2.idx) (.int .i64 r.2.st.kind) f (.bool r.2.st.shut) (.int .i64 r.2.st.eng) d:=⟨_,rfl⟩;rw[<-E] at t B ⊢;have R:=t.size;have i:∀ k,k<b.heap.size->k≠a.heap.size->q.heap[k]?=b.heap[k]?:=fun k N K=>t.block k N K
 have g:∀ k,(I k∨(e.heap.size<=k∧k<b.heap.size))->k<b.heap.size∧k≠a.heap.size:=fun k hk'=>by
  rcases hk' with hk' | hk'
  ·have:=h.ltI k hk'
   omega
  ·omega
 refine⟨B,Qh G fun k hk'=>i k (by have:=m k hk';omega) (by have:=m k hk';omega),Qh C fun k hk'=>i k (by have:=l k hk';omega) (by have:=l k hk';omega),Qh p.row fun k hk'=>i k (p.ltB k hk') (by have:=h.ltB k hk';omega),M,?_,?_,.inl rfl,fun k hk'=>.inr (.inl hk'),fun k hk'=>.inr (.inr (.inl hk')),fun k hk'=>.inr (.inr (.inr hk')),v,fun x j=>(h.ibs x j).mono (fun k hk'=>.inl hk'),fun k hk'=>?_,fun k hk'=>?_,fun k hk' hi'=>?_⟩
 ·exact O.keep v fun k hk'=>i k (g k hk').1 (g k hk').2
 ·exact fun x j=>(p.each x j).keep (h.ibs x j) fun k hk'=>i k (g k (.inl hk')).1 (g k (.inl hk')).2
 ·rcases hk' with hk' | hk' | hk' | hk'
  ·omega
  ·have:=m k hk';omega
  ·have:=l k hk';omega
  ·have:=h.ltB k hk';omega
 ·have:=(g k hk').1
  omega
 ·rcases hk' with hk' | hk' | hk' | hk'
  ·exact(g k hi').2 hk'
  ·have:=m k hk'
   rcases hi' with hi' | hi'
   ·have:=h.ltI k hi';omega
   ·omega
  ·have:=l k hk'
   rcases hi' with hi' | hi'
   ·have:=h.ltI k hi';omega
   ·omega
  ·rcases hi' with hi' | hi'
   ·exact h.dis k hi' hk'
   ·have:=h.ltB k hk';omega
theorem Zlz {B n s:Nat} {t:TypeId} {v:Value} {xs:List Value} (h:w.ownsRow B t s v n xs):w.ownsRow 0 t s v n xs:=ZaL h fun _ _=>Nat.zero_le _
def Zvd (K:Nat->Prop) (w:World) (pd:Nat) (d:Dk) (kind:Int) (N T:Nat) (e:Ending) (w':World):Prop:=
 (Zfk d kind≠0∧e=.returned (.tuple #[.pointer none,.int .i64 (Zfk d kind)])∧w'=w)∨
 (Zfk d kind=0∧∃ p,e=.returned (.tuple #[ptr p,.int .i64 0])∧SD K w' pd p (Zgn d kind) d N T∧Below w.heap.size w w')
theorem Zpy (d:Dk) (kind:Int):(kind<0∨6<=kind)∧Zfk d kind=1∨(0<=kind∧kind<6∧d.power=0∧Zfk d kind=11)∨(0<=kind∧kind<6∧d.power≠0∧Zfk d kind=0):=by
 unfold Zfk;by_cases h:kind<0∨6<=kind
 ·exact .inl ⟨h,if_pos h⟩
 ·rw[if_neg h]
  by_cases a:d.power=0
  ·exact .inr (.inl ⟨by omega,by omega,a,if_pos a⟩)
  ·exact .inr (.inr ⟨by omega,by omega,a,if_neg a⟩)
set_option maxHeartbeats 4000000 in
theorem Zqt {K F:Nat->Prop} {d:Dk} {N T Fn Bn:Nat} (kind:Int) (w:World) (h:Dsk F w pd d N T) (aO:∀ k,F k->¬ K k) (hK:∀ k,K k->k<w.heap.size) (hN:N<=1000000) (hT:T<=1000000000) (q:SzD d Fn Bn) (bi:Fn<=900) (bl:Bn<=90000) (bm:Fn*Bn<=9000000):
 Calls prog 13 #[ptr pd,.int .i64 kind] w fun e w'=>Zvd K w pd d kind N T e w':=by
 rcases Zpy d kind with ⟨hk,j⟩ | ⟨Q,V,M,j⟩ | ⟨Q,V,M,j⟩
 ·have Z:Hid (Zvd K w pd d kind N T (.returned (.tuple #[.pointer none,.int .i64 1])) w):=ZZ (.inl ⟨by rw[j];decide,by rw[j],rfl⟩)
  clear h q j;by_cases b:kind<0
  ·have aH:decide (kind<0)=true:=decide_eq_true b
   go_enter func13,ntmps13
   go_wp2;go_ret2;exact Z.o
  ·have aH:decide (kind<0)=false:=decide_eq_false b
   have aL:decide (kind ≥ 6)=true:=decide_eq_true (by omega)
   go_enter func13,ntmps13
   go_wp2;go_ret2;exact Z.o
 ·have Z:Hid (Zvd K w pd d kind N T (.returned (.tuple #[.pointer none,.int .i64 11])) w):=ZZ (.inl ⟨by rw[j];decide,by rw[j],rfl⟩)
  have ae:Hid (Calls prog 33 #[ptr pd] w fun e w'=>e=.returned (.bool false)∧w'=w):=ZZ (by
   obtain⟨L,b,-⟩:=h;have:=Zma w b;rw[show(d.power != 0)=false by rw[M];rfl] at this
   exact this)
  have aH:decide (kind<0)=false:=decide_eq_false (by omega)
  have aL:decide (kind ≥ 6)=false:=decide_eq_false (by omega)
  clear h q j M
  go_enter func13,ntmps13
  go_wp2_with fail
  refine ae.o.mono ?_;rintro e a ⟨rfl,rfl⟩;go_wp2;go_ret2;exact Z.o
 ·have ae:Hid (Calls prog 33 #[ptr pd] w fun e w'=>e=.returned (.bool true)∧w'=w):=ZZ (by
   obtain⟨L,b,-⟩:=h;have:=Zma w b;rw[show(d.power != 0)=true by rw[bne_iff_ne];exact M] at this
   exact this)
  have aH:decide (kind<0)=false:=decide_eq_false (by omega)
  have aL:decide (kind ≥ 6)=false:=decide_eq_false (by omega)
  have O:OkD d:=by obtain⟨L,-,h2,-⟩:=h;exact h2
  have ao:∀ n,(Z1 d n).1.length<=90000:=fun n=>Nat.le_trans (q.read n) bl
  have aJ:=ZZ (Zlx kind w h hN hT ao);have aT:=ZZ (fun W (hb:Below w.heap.size w W)=>Zph kind W (h.below hb) hN hT Q V ao (fun n f l hs=>ZuQ hs) (ZwG kind q O bi bm))
  have a9:=ZZ (fun(I:Nat->Prop) rv pv x W hr hp t hi hlt hs=>Zsz I (ZfS d kind) rv pv x W hr hp t hi hlt (Zqr d kind) hs (by
   have b:=(Zki kind q O).1
   omega) (by have:=(Zki kind q O).2;omega))
  have aj:Hid ((Yd d kind).length≠0∧(Yd d kind).length<=1000∧∀ x ∈ Yd d kind,SnS x):=ZZ ⟨fun e=>(ZfF (d:=d) Q V).2 (List.eq_nil_of_length_eq_zero e),by have:=Zsx (kind:=kind) q O;omega,fun x t=>((ZfF (d:=d) Q V).1 x t).1.snS⟩
  have aY:=ZZ (ZeT (d:=d) Q V);have HD:=ZZ h;have ai:=ZZ (And.intro aO hK);have bf:=ZZ j;obtain⟨P,ac⟩:∃ P,P=Zgn d kind:=⟨_,rfl⟩;have aC:Hid (P=⟨((ZfS d kind).behind (ZaW (Yd d kind))).1,Yd d kind,((ZfS d kind).behind (ZaW (Yd d kind))).2,((ZfS d kind).behind (ZaW (Yd d kind))).1.next,0,false⟩):=ZZ ac;rw[<-ac] at aY;unfold Zvd;rw[<-ac];clear h q M O ao j aO hK ac
  go_enter func13,ntmps13
  go_wp2_with fail
  refine ae.o.mono ?_;rintro e g ⟨rfl,rfl⟩
  go_wp2_with fail
  refine aJ.o.mono ?_;rintro e a ⟨bv,bs,I,v0,l0,rfl,aq,C⟩;have i:=ZZ (And.intro C aq);obtain⟨z,u,aR⟩:=Zg C.row;generalize bg:bs.length=B at aR;clear bg;subst aR;obtain⟨c,y⟩:∃ c,c=a.alloc (.cells (ZsL pd (.slice z B u)) 76):=⟨_,rfl⟩;have aV:=ZZ y;have aA:Hid (Below a.heap.size a c):=ZZ (by rw[y];exact Jc _ _)
  have aD:Hid (Below g.heap.size g c):=ZZ (C.old.trans (aA.o.mono C.old.size));have a8:Hid (Z0 (fun k=>k=a.heap.size∨(Value.slice z B u).ownBlock=some k) I c a.heap.size pd ⟨.slice none 0 0,.slice none 0 0,.slice z B u,.slice none 0 0,.slice none 0 0,bs⟩ (Zpx (Yd d kind))):=ZZ (by rw[y];exact Zvb pd C aq)
  have a2:c.heap.size=a.heap.size+1:=by rw[y];simp
  have aQ:=ZZ a2;unfold ZsL at y;clear C aq aJ ae a2
  go_upto_region 6 with fail
  rw[<-y];clear y
  go_wp2_with fail
  refine(aT.o c aD.o).mono ?_;rintro e W3 ⟨rv,pv,rfl,aF,aw,az⟩;have aB:=ZZ az;have ap:=ZZ aF;have af:=ZZ aw;have aW:=ZZ (Zqd W3 (a8.o.below az) (by exact aj.o.1) (by have:=aj.o.2.1;exact Nat.le_trans this (by decide)))
  obtain⟨ra,rc,U⟩:=aF.shape;obtain⟨pa,pc,X⟩:=Zg aw;generalize al:(ZfS d kind).recs.length=rn at U;generalize ak:(ZfS d kind).pcs.length=pn at X;clear al ak aF aw az aT;subst U X;obtain⟨x,t⟩:∃ x,x=Zcj bs:=⟨_,rfl⟩
  have J:Hid (x ∈ bs∧x.1=ZaW (Yd d kind)):=ZZ (by
   rw[t];refine⟨ZhW ?_,?_⟩
   ·intro e
    have:=aj.o.1;rw[<-i.o.2,List.length_map] at this;exact this e
   ·have:=ZjR (L:=⟨.slice none 0 0,.slice none 0 0,.slice z B u,.slice none 0 0,.slice none 0 0,bs⟩) (s:=Zpx (Yd d kind)) i.o.2
    exact this)
  have aI:Hid (Calls prog 37 #[ptr a.heap.size] W3 fun e w'=>e=.returned (snV x)∧Below W3.heap.size W3 w'):=ZZ (by rw[t];exact aW.o)
  clear aW t;generalize aP:snV x=sx at aI;have a6:=ZZ aP;clear aP
  go_wp2_with fail
  refine aI.o.mono ?_;rintro e A ⟨rfl,au⟩;have S:=ZZ au;have G:Hid (Below c.heap.size c A):=ZZ (aB.o.trans (au.mono aB.o.size));clear au aI
  have aM:Hid (Calls prog 36 #[.agg #[.int .i64 (ZfS d kind).first,.slice ra rn rc,.slice pa pn pc],sx] A fun e w'=>Zcp I A (.slice ra rn rc) (.slice pa pn pc) ((ZfS d kind).behind (ZaW (Yd d kind))) e w'):=ZZ (by
   have a5:=i.o.1.below (aA.o.trans (G.o.mono aA.o.size));rw[<-J.o.2,<-a6.o]
   exact a9.o I _ _ x A ((ap.o.below S.o zL).own0) (Qh (Zlz af.o) fun k hk=>S.o.block k (World.ownsRow.lt af.o k hk).2) (a5.each x J.o.1) (i.o.1.ibs x J.o.1) a5.ltI (aj.o.2.2 _ (by rw[<-i.o.2];exact List.mem_map.2 ⟨x,J.o.1,rfl⟩)))
  generalize bA:(ZfS d kind).first=gf at *
  go_wp2_with fail
  refine aM.o.mono ?_;rintro e E ⟨bp,bj,bz,bE,rfl,ag,ad,aN,aZ,aa,aE,am⟩;obtain⟨R,hR⟩:∃ R,R=(ZfS d kind).behind (ZaW (Yd d kind)):=⟨_,rfl⟩;rw[<-hR] at aC ag ad aa aE;rw[<-hR]
  have ay:∀ k,bp.ownBlock=some k->c.heap.size<=k∧k<A.heap.size:=fun k hk=>by
   rcases aN with e | e
   ·rw[e] at hk
    have b:=World.ownsRow.lt ap.o k hk;have:=S.o.size;omega
   ·rw[e] at hk;cases hk
  have an:∀ k,bj.ownBlock=some k->c.heap.size<=k∧k<A.heap.size:=fun k hk=>by
   rcases aZ with e | e
   ·rw[e] at hk
    have b:=World.ownsRow.lt af.o k hk;have:=S.o.size;omega
   ·rw[e] at hk;cases hk
  have ar:=Zvc pd i.o.1 i.o.2 aV.o G.o am ag ad ay an aa aE;obtain⟨a3,bb,U⟩:=ag.shape;obtain⟨a0,a4,X⟩:=Zg ad;obtain⟨la,ln,lc,ta,tn,tc,aS,aK⟩:=aa.shape
  dsimp only at aS aK
  generalize al:R.1.recs.length=aU at U;generalize ak:R.1.pcs.length=a7 at X;clear al ak ag ad aa aE aN aZ;subst U X aS aK;have aX:Hid (Below c.heap.size c E):=ZZ (G.o.trans (am.mono G.o.size))
  have m:Hid (Bk 76 E a.heap.size (ZsL pd (.slice z B u))):=ZZ (by
   have h0:Bk 76 c a.heap.size (ZsL pd (.slice z B u)):=by rw[aV.o];exact heap_alloc_new a _
   exact h0.keep (aX.o.block _ (by have:=aQ.o;omega)))
  obtain⟨Y,H⟩:∃ Y,Y=ZnB E a.heap.size (.int .i64 R.1.first) (.slice a3 aU bb) (.slice a0 a7 a4) (.int .i64 R.2.idx) (.int .i64 R.2.st.kind) (.slice la ln lc) (.bool R.2.st.shut) (.int .i64 R.2.st.eng) (.slice ta tn tc):=⟨_,rfl⟩;have br:Hid (Qj (fun k=>k=a.heap.size) E Y):=ZZ (by rw[H];exact Zko _ _ _ _ _ _ _ _ _ _ _)
  rw[<-H] at ar;have aG:Hid (g.heap.size<=a.heap.size):=ZZ i.o.1.old.size;have a1:Hid (Below g.heap.size g E):=ZZ (aD.o.trans (aX.o.mono aD.o.size));have ab:Hid (Below g.heap.size g Y):=ZZ (a1.o.trans (br.o.below a1.o.size (fun k hk=>by rw[hk];exact aG.o)))
  have av:Hid (SD K Y pd a.heap.size ⟨R.1,Yd d kind,R.2,0,0,false⟩ d N T):=ZZ (by
   have bC:=aG.o;have bB:=aQ.o;have bx:=G.o.size
   have hM:∀ k,(k=a.heap.size∨(Value.slice a3 aU bb).ownBlock=some k∨(Value.slice a0 a7 a4).ownBlock=some k∨(Value.slice z B u).ownBlock=some k)->g.heap.size<=k:=fun k hk=>by
    rcases hk with hk | hk | hk | hk
    ·omega
    ·have:=ay k hk;omega
    ·have:=an k hk;omega
    ·exact i.o.1.far k hk
   have hI:∀ k,(I k∨(A.heap.size<=k∧k<E.heap.size))->g.heap.size<=k:=fun k hk=>by
    rcases hk with hk | hk
    ·exact i.o.1.lo k hk
    ·omega
   refine⟨F,_,_,_,HD.o.below ab.o,ar,ai.o.1,fun k hk v=>?_,fun k hk v=>?_,fun k hk v=>?_,fun k hk v=>?_⟩
   ·have:=hM k hk;have:=ai.o.2 k v;omega
   ·have:=hI k hk;have:=ai.o.2 k v;omega
   ·have:=hM k v;have:=HD.o.ltF k hk;omega
   ·have:=hI k v;have:=HD.o.ltF k hk;omega)
  have bd:Hid (ZoJ ⟨R.1,Yd d kind,R.2,0,0,false⟩):=ZZ (by
   have b:=aY.o.num;rw[aC.o] at b
   exact⟨b.f0,b.f1,(Qk (by decide) (by decide):I64 0),(Qk (by decide) (by decide):I64 0)⟩)
  have ax:=ZZ (av.o.next bd.o);have bt:Hid ((⟨R.1,Yd d kind,R.2,0,0,false⟩:Sto).next=R.1.next):=ZZ rfl;rw[bt.o] at ax;obtain⟨z1,y1⟩:=m.o.cell 1 rfl;obtain⟨z2,y2⟩:=m.o.cell 2 rfl;obtain⟨z3,y3⟩:=m.o.cell 3 rfl;obtain⟨z5,y5⟩:=m.o.cell 5 rfl;obtain⟨z6,y6⟩:=m.o.cell 6 rfl;obtain⟨z7,y7⟩:=m.o.cell 7 rfl;obtain⟨z8,y8⟩:=m.o.cell 8 rfl;obtain⟨z9,y9⟩:=m.o.cell 9 rfl;obtain⟨bk,bq⟩:=m.o.cell 10 rfl;unfold snV snC
  dsimp only
  unfold ZnB at H;clear ar ay an am aM a9 hR i a8 J a6 ap af S aB
  go_upto_region 7 with fail
  rw[<-H];clear H z1 y1 z2 y2 z3 y3 z5 y5 z6 y6 z7 y7 z8 y8 z9 y9 bk bq
  go_wp2_with fail
  refine ax.o.mono ?_;rintro e W7 ⟨rfl,D⟩;have bD:=ZZ D;obtain⟨⟨-,be,-,-⟩,fz⟩:=(av.o.below D).cells;have bw:=fz 11
  have bo:Hid (SD K (W7.setCell ⟨a.heap.size,11,none⟩ (.int .i64 R.1.next)) pd a.heap.size P d N T):=ZZ (by
   have b:=((av.o.below D).synced (fun k hk=>by have:=ai.o.2 k hk;have:=ab.o.size;have:=D.size;omega)).1
   have e:P=Zbw ⟨R.1,Yd d kind,R.2,0,0,false⟩:=by rw[aC.o];rfl
   rw[e]
   exact b)
  have bu:Hid (Below g.heap.size g (W7.setCell ⟨a.heap.size,11,none⟩ (.int .i64 R.1.next))):=ZZ ((ab.o.trans (D.mono ab.o.size)).setCell (p:=⟨a.heap.size,11,none⟩) aG.o _);generalize R.1.next=nx at *
  dsimp only at be
  clear D fz ax;go_wp2;go_ret2;exact .inr ⟨bf.o,_,rfl,bo.o,bu.o⟩
end Go.Proofs.YtnahjngbneicaaaGreatDoor
