import Derived.Test.YtnahjngbneicaaaGreatDoorStoreX
namespace Go.Proofs.YtnahjngbneicaaaGreatDoor
open _root_.Go.Proofs.Tryz
set_option maxRecDepth 100000
open Go.RowKit
variable {a w:World} {I:Nat->Prop} {bv f:Value} {bs:List (Qv × Value × Value)} {bases:List Qv} {pd:Nat}
def Zpx (b:List Qv):Sto:=⟨Zbv,b,Xr,0,0,false⟩
def ZsL (pd:Nat) (bv:Value):Array Value:=
 #[ptr pd,.int .i64 0,.slice none 0 0,.slice none 0 0,bv,.int .i64 0,.int .i64 0,.slice none 0 0,.bool false,.int .i64 0,.slice none 0 0,.int .i64 0,.int .i64 0,.bool false]
theorem Zvb {i:List Int} (pd:Nat) (h:Jr w I f i bv bs a) (j:bs.map Prod.fst=bases):
 Z0 (fun k=>k=a.heap.size∨bv.ownBlock=some k) I (a.alloc (.cells (ZsL pd bv) 76)) a.heap.size pd ⟨.slice none 0 0,.slice none 0 0,bv,.slice none 0 0,.slice none 0 0,bs⟩ (Zpx bases):=by
 have e:=Jc a (.cells (ZsL pd bv) 76);have l:(a.alloc (.cells (ZsL pd bv) 76)).heap.size=a.heap.size+1:=by simp
 have b:=h.below e;refine⟨heap_alloc_new a _,Q9.nil _ _,World.ownsRow_nil _ _ _ _,b.row,j,⟨RdI.nil _,RdE.nil _,(Qk (by decide) (by decide):I64 0),(Qk (by decide) (by decide):I64 0),(Qk (by decide) (by decide):I64 0)⟩,b.each,.inl rfl,(fun g c=>by cases c),(fun g c=>by cases c),fun g c=>.inr c,⟨.inl rfl,.inl rfl⟩,b.ibs,fun k hk=>?_,b.ltI,fun k hk d=>?_⟩
 ·rcases hk with hk | hk
  ·omega
  ·exact b.ltB k hk
 ·rcases hk with hk | hk
  ·have:=h.ltI k d
   omega
  ·exact h.dis k d hk
def ZnB (W:World) (p:Nat) (f rv pv x0 x1 x2 x3 x4 x5:Value):World:=
 ((((((((W.setCell ⟨p,1,none⟩ f).setCell ⟨p,2,none⟩ rv).setCell ⟨p,3,none⟩ pv).setCell ⟨p,5,none⟩ x0).setCell ⟨p,6,none⟩ x1).setCell ⟨p,7,none⟩ x2).setCell ⟨p,8,none⟩ x3).setCell ⟨p,9,none⟩ x4).setCell ⟨p,10,none⟩ x5
theorem Zko (W:World) (p:Nat) (f rv pv d e c i g b:Value):Qj (fun k=>k=p) W (ZnB W p f rv pv d e c i g b):=by
 have a:p<W.heap.size->(fun k=>k=p) p:=fun _=>rfl
 exact(((((((((Qj.refl (fun k=>k=p) W).setCell 1 a f).setCell 2 a rv).setCell 3 a pv).setCell 5 a d).setCell 6 a e).setCell 7 a c).setCell 8 a i).setCell 9 a g).setCell 10 a b
theorem ZsA {W:World} {p:Nat} (h:Bk 76 W p (ZsL pd bv)) (f rv pv c d b g e a:Value):Bk 76 (ZnB W p f rv pv c d b g e a) p #[ptr pd,f,rv,pv,bv,c,d,b,g,e,a,.int .i64 0,.int .i64 0,.bool false]:=by
 have i:=((((((((h.set 1 f).set 2 rv).set 3 pv).set 5 c).set 6 d).set 7 b).set 8 g).set 9 e).set 10 a;simp only [ZsL,List.setIfInBounds_toArray,List.set_cons_zero,List.set_cons_succ] at i;unfold ZnB;exact i
theorem Zvc {c d b:World} {C:Value} {G:List Int} {rv pv e:Value} {r:Lgb × Qv} (pd:Nat) (h:Jr w I C G bv bs a) (O:bs.map Prod.fst=bases) (n:c=a.alloc (.cells (ZsL pd bv) 76))
 (p:Below c.heap.size c d) (v:Below d.heap.size d b) (J:Q9 b 0 rv r.1.recs) (N:b.ownsRow 0 108 3 pv r.1.pcs.length (Qx r.1.pcs)) (j:∀ k,rv.ownBlock=some k->c.heap.size<=k∧k<d.heap.size) (l:∀ k,pv.ownBlock=some k->c.heap.size<=k∧k<d.heap.size)
 (K:SnR b (r.2,e,f)) (A:ZlB (fun k=>I k∨(d.heap.size<=k∧k<b.heap.size)) (r.2,e,f)):
 Z0 (fun k=>k=a.heap.size∨rv.ownBlock=some k∨pv.ownBlock=some k∨bv.ownBlock=some k) (fun k=>I k∨(d.heap.size<=k∧k<b.heap.size)) (ZnB b a.heap.size (.int .i64 r.1.first) rv pv (.int .i64 r.2.idx) (.int .i64 r.2.st.kind) e (.bool r.2.st.shut) (.int .i64 r.2.st.eng) f) a.heap.size pd ⟨rv,pv,bv,e,f,bs⟩ ⟨r.1,bases,r.2,0,0,false⟩:=by
 have y:Below a.heap.size a c:=by rw[n];exact Jc _ _
 have R:c.heap.size=a.heap.size+1:=by rw[n];simp
 have Q:=p.size;have P:=v.size;have B:Below c.heap.size c b:=p.trans (v.mono p.size);have H:Below a.heap.size a b:=y.trans (B.mono y.size);have t:=h.below H
 have L:Bk 76 b a.heap.size (ZsL pd bv):=by
  have F:Bk 76 c a.heap.size (ZsL pd bv):=by rw[n];exact heap_alloc_new a _
  exact F.keep (B.block _ (by omega))
 have u:=Zko b a.heap.size (.int .i64 r.1.first) rv pv (.int .i64 r.2.idx) (.int .i64 r.2.st.kind) e (.bool r.2.st.shut) (.int .i64 r.2.st.eng) f
 have z:Bk 76 (ZnB b a.heap.size (.int .i64 r.1.first) rv pv (.int .i64 r.2.idx) (.int .i64 r.2.st.kind) e (.bool r.2.st.shut) (.int .i64 r.2.st.eng) f) a.heap.size (stC pd ⟨rv,pv,bv,e,f,bs⟩ ⟨r.1,bases,r.2,0,0,false⟩):=
  ZsA L _ _ _ _ _ _ _ _ _
 obtain⟨q,M⟩:∃ q,q=ZnB b a.heap.size (.int .i64 r.1.first) rv pv (.int .i64 r.2.idx) (.int .i64 r.2.st.kind) e (.bool r.2.st.shut) (.int .i64 r.2.st.eng) f:=⟨_,rfl⟩;rw[<-M] at u z ⊢;have S:=u.size;have i:∀ k,k<b.heap.size->k≠a.heap.size->q.heap[k]?=b.heap[k]?:=fun k E D=>u.block k E D
 have g:∀ k,(I k∨(d.heap.size<=k∧k<b.heap.size))->k<b.heap.size∧k≠a.heap.size:=fun k hk'=>by
  rcases hk' with hk' | hk'
  ·have:=h.ltI k hk'
   omega
  ·omega
 refine⟨z,Qh J fun k hk'=>i k (by have:=j k hk';omega) (by have:=j k hk';omega),Qh N fun k hk'=>i k (by have:=l k hk';omega) (by have:=l k hk';omega),Qh t.row fun k hk'=>i k (t.ltB k hk') (by have:=h.ltB k hk';omega),O,?_,?_,.inl rfl,fun k hk'=>.inr (.inl hk'),fun k hk'=>.inr (.inr (.inl hk')),fun k hk'=>.inr (.inr (.inr hk')),A,fun x m=>(h.ibs x m).mono (fun k hk'=>.inl hk'),fun k hk'=>?_,fun k hk'=>?_,fun k hk' hi'=>?_⟩
 ·exact K.keep A fun k hk'=>i k (g k hk').1 (g k hk').2
 ·exact fun x m=>(t.each x m).keep (h.ibs x m) fun k hk'=>i k (g k (.inl hk')).1 (g k (.inl hk')).2
 ·rcases hk' with hk' | hk' | hk' | hk'
  ·omega
  ·have:=j k hk';omega
  ·have:=l k hk';omega
  ·have:=h.ltB k hk';omega
 ·have:=(g k hk').1
  omega
 ·rcases hk' with hk' | hk' | hk' | hk'
  ·exact(g k hi').2 hk'
  ·have:=j k hk'
   rcases hi' with hi' | hi'
   ·have:=h.ltI k hi';omega
   ·omega
  ·have:=l k hk'
   rcases hi' with hi' | hi'
   ·have:=h.ltI k hi';omega
   ·omega
  ·rcases hi' with hi' | hi'
   ·exact h.dis k hi' hk'
   ·have:=h.ltB k hk';omega
theorem Zlz {B n s:Nat} {t:TypeId} {v:Value} {xs:List Value} (h:w.ownsRow B t s v n xs):w.ownsRow 0 t s v n xs:=ZaL h fun _ _=>Nat.zero_le _
def Zvd (K:Nat->Prop) (w:World) (pd:Nat) (d:Dk) (kind:Int) (N T:Nat) (e:Ending) (w':World):Prop:=
 (Zfk d kind≠0∧e=.returned (.tuple #[.pointer none,.int .i64 (Zfk d kind)])∧w'=w)∨
 (Zfk d kind=0∧∃ p,e=.returned (.tuple #[ptr p,.int .i64 0])∧SD K w' pd p (Zgn d kind) d N T∧Below w.heap.size w w')
theorem Zpy (d:Dk) (kind:Int):(kind<0∨6<=kind)∧Zfk d kind=1∨(0<=kind∧kind<6∧d.power=0∧Zfk d kind=11)∨(0<=kind∧kind<6∧d.power≠0∧Zfk d kind=0):=by
 unfold Zfk;by_cases h:kind<0∨6<=kind
 ·exact .inl ⟨h,if_pos h⟩
 ·rw[if_neg h]
  by_cases a:d.power=0
  ·exact .inr (.inl ⟨by omega,by omega,a,if_pos a⟩)
  ·exact .inr (.inr ⟨by omega,by omega,a,if_neg a⟩)
set_option maxHeartbeats 4000000 in
theorem Zqt {K F:Nat->Prop} {d:Dk} {N T Fn Bn:Nat} (kind:Int) (w:World) (h:Dsk F w pd d N T) (a4:∀ k,F k->¬ K k) (hK:∀ k,K k->k<w.heap.size) (hN:N<=1000000) (hT:T<=1000000000) (q:SzD d Fn Bn) (bo:Fn<=900) (bp:Bn<=90000) (bt:Fn*Bn<=9000000):
 Calls prog 13 #[ptr pd,.int .i64 kind] w fun e w'=>Zvd K w pd d kind N T e w':=by
 rcases Zpy d kind with ⟨hk,j⟩ | ⟨P,V,M,j⟩ | ⟨P,V,M,j⟩
 ·have HE:Hid (Zvd K w pd d kind N T (.returned (.tuple #[.pointer none,.int .i64 1])) w):=ZZ (.inl ⟨by rw[j];decide,by rw[j],rfl⟩)
  clear h q j;by_cases b:kind<0
  ·have aB:decide (kind<0)=true:=decide_eq_true b
   go_enter func13,ntmps13
   go_wp2;go_ret2;exact HE.o
  ·have aB:decide (kind<0)=false:=decide_eq_false b
   have aQ:decide (kind ≥ 6)=true:=decide_eq_true (by omega)
   go_enter func13,ntmps13
   go_wp2;go_ret2;exact HE.o
 ·have HE:Hid (Zvd K w pd d kind N T (.returned (.tuple #[.pointer none,.int .i64 11])) w):=ZZ (.inl ⟨by rw[j];decide,by rw[j],rfl⟩)
  have Z:Hid (Calls prog 33 #[ptr pd] w fun e w'=>e=.returned (.bool false)∧w'=w):=ZZ (by
   obtain⟨L,b,-⟩:=h;have:=Zma w b;rw[show(d.power != 0)=false by rw[M];rfl] at this
   exact this)
  have aB:decide (kind<0)=false:=decide_eq_false (by omega)
  have aQ:decide (kind ≥ 6)=false:=decide_eq_false (by omega)
  clear h q j M
  go_enter func13,ntmps13
  go_wp2_with fail
  refine Z.o.mono ?_;rintro e a ⟨rfl,rfl⟩;go_wp2;go_ret2;exact HE.o
 ·have Z:Hid (Calls prog 33 #[ptr pd] w fun e w'=>e=.returned (.bool true)∧w'=w):=ZZ (by
   obtain⟨L,b,-⟩:=h;have:=Zma w b;rw[show(d.power != 0)=true by rw[bne_iff_ne];exact M] at this
   exact this)
  have aB:decide (kind<0)=false:=decide_eq_false (by omega)
  have aQ:decide (kind ≥ 6)=false:=decide_eq_false (by omega)
  have G:OkD d:=by obtain⟨L,-,h2,-⟩:=h;exact h2
  have aw:∀ n,(Z1 d n).1.length<=90000:=fun n=>Nat.le_trans (q.read n) bp
  have aJ:=ZZ (Zlx kind w h hN hT aw);have aX:=ZZ (fun W (hb:Below w.heap.size w W)=>Zph kind W (h.below hb) hN hT P V aw (fun n f l hs=>ZuQ hs) (ZwG kind q G bo bt))
  have a8:=ZZ (fun(I:Nat->Prop) rv pv x W hr hp A hi hlt hs=>Zsz I (ZfS d kind) rv pv x W hr hp A hi hlt (Zqr d kind) hs (by
   have b:=(Zki kind q G).1
   omega) (by have:=(Zki kind q G).2;omega))
  have ae:Hid ((Yd d kind).length≠0∧(Yd d kind).length<=1000∧∀ x ∈ Yd d kind,SnS x):=ZZ ⟨fun e=>(ZfF (d:=d) P V).2 (List.eq_nil_of_length_eq_zero e),by have:=Zsx (kind:=kind) q G;omega,fun x A=>((ZfF (d:=d) P V).1 x A).1.snS⟩
  have aS:=ZZ (ZeT (d:=d) P V);have HD:=ZZ h;have aa:=ZZ (And.intro a4 hK);have be:=ZZ j;obtain⟨S,ai⟩:∃ S,S=Zgn d kind:=⟨_,rfl⟩;have ak:Hid (S=⟨((ZfS d kind).behind (ZaW (Yd d kind))).1,Yd d kind,((ZfS d kind).behind (ZaW (Yd d kind))).2,((ZfS d kind).behind (ZaW (Yd d kind))).1.next,0,false⟩):=ZZ ai;rw[<-ai] at aS;unfold Zvd;rw[<-ai];clear h q M G aw j a4 hK ai
  go_enter func13,ntmps13
  go_wp2_with fail
  refine Z.o.mono ?_;rintro e g ⟨rfl,rfl⟩
  go_wp2_with fail
  refine aJ.o.mono ?_;rintro e a ⟨bv,bs,I,v0,l0,rfl,aE,E⟩;have i:=ZZ (And.intro E aE);obtain⟨u,B,aT⟩:=Zg E.row;generalize br:bs.length=z at aT;clear br;subst aT;obtain⟨c,y⟩:∃ c,c=a.alloc (.cells (ZsL pd (.slice u z B)) 76):=⟨_,rfl⟩;have a3:=ZZ y;have aH:Hid (Below a.heap.size a c):=ZZ (by rw[y];exact Jc _ _)
  have ay:Hid (Below g.heap.size g c):=ZZ (E.old.trans (aH.o.mono E.old.size));have aR:Hid (Z0 (fun k=>k=a.heap.size∨(Value.slice u z B).ownBlock=some k) I c a.heap.size pd ⟨.slice none 0 0,.slice none 0 0,.slice u z B,.slice none 0 0,.slice none 0 0,bs⟩ (Zpx (Yd d kind))):=ZZ (by rw[y];exact Zvb pd E aE)
  have a2:c.heap.size=a.heap.size+1:=by rw[y];simp
  have aY:=ZZ a2;unfold ZsL at y;clear E aE aJ Z a2
  go_upto_region 6 with fail
  rw[<-y];clear y
  go_wp2_with fail
  refine(aX.o c ay.o).mono ?_;rintro e W3 ⟨rv,pv,rfl,aG,au,al⟩;have ao:=ZZ al;have ap:=ZZ aG;have ad:=ZZ au;have a0:=ZZ (Zqd W3 (aR.o.below al) (by exact ae.o.1) (by have:=ae.o.2.1;exact Nat.le_trans this (by decide)))
  obtain⟨ra,rc,Q⟩:=aG.shape;obtain⟨pa,pc,Y⟩:=Zg au;generalize aq:(ZfS d kind).recs.length=rn at Q;generalize ar:(ZfS d kind).pcs.length=pn at Y;clear aq ar aG au al aX;subst Q Y;obtain⟨x,A⟩:∃ x,x=Zcj bs:=⟨_,rfl⟩
  have X:Hid (x ∈ bs∧x.1=ZaW (Yd d kind)):=ZZ (by
   rw[A];refine⟨ZhW ?_,?_⟩
   ·intro e
    have:=ae.o.1;rw[<-i.o.2,List.length_map] at this;exact this e
   ·have:=ZjR (L:=⟨.slice none 0 0,.slice none 0 0,.slice u z B,.slice none 0 0,.slice none 0 0,bs⟩) (s:=Zpx (Yd d kind)) i.o.2
    exact this)
  have aA:Hid (Calls prog 37 #[ptr a.heap.size] W3 fun e w'=>e=.returned (snV x)∧Below W3.heap.size W3 w'):=ZZ (by rw[A];exact a0.o)
  clear a0 A;generalize a9:snV x=sx at aA;have a6:=ZZ a9;clear a9
  go_wp2_with fail
  refine aA.o.mono ?_;rintro e t ⟨rfl,aj⟩;have U:=ZZ aj;have J:Hid (Below c.heap.size c t):=ZZ (ao.o.trans (aj.mono ao.o.size));clear aj aA
  have aO:Hid (Calls prog 36 #[.agg #[.int .i64 (ZfS d kind).first,.slice ra rn rc,.slice pa pn pc],sx] t fun e w'=>Zcp I t (.slice ra rn rc) (.slice pa pn pc) ((ZfS d kind).behind (ZaW (Yd d kind))) e w'):=ZZ (by
   have aI:=i.o.1.below (aH.o.trans (J.o.mono aH.o.size));rw[<-X.o.2,<-a6.o]
   exact a8.o I _ _ x t ((ap.o.below U.o zL).own0) (Qh (Zlz ad.o) fun k hk=>U.o.block k (World.ownsRow.lt ad.o k hk).2) (aI.each x X.o.1) (i.o.1.ibs x X.o.1) aI.ltI (ae.o.2.2 _ (by rw[<-i.o.2];exact List.mem_map.2 ⟨x,X.o.1,rfl⟩)))
  generalize bu:(ZfS d kind).first=gf at *
  go_wp2_with fail
  refine aO.o.mono ?_;rintro e D ⟨bi,bk,bC,bA,rfl,ac,ab,aP,aL,ag,an,ax⟩;obtain⟨R,hR⟩:∃ R,R=(ZfS d kind).behind (ZaW (Yd d kind)):=⟨_,rfl⟩;rw[<-hR] at ak ac ab ag an;rw[<-hR]
  have az:∀ k,bi.ownBlock=some k->c.heap.size<=k∧k<t.heap.size:=fun k hk=>by
   rcases aP with e | e
   ·rw[e] at hk
    have b:=World.ownsRow.lt ap.o k hk;have:=U.o.size;omega
   ·rw[e] at hk;cases hk
  have aC:∀ k,bk.ownBlock=some k->c.heap.size<=k∧k<t.heap.size:=fun k hk=>by
   rcases aL with e | e
   ·rw[e] at hk
    have b:=World.ownsRow.lt ad.o k hk;have:=U.o.size;omega
   ·rw[e] at hk;cases hk
  have av:=Zvc pd i.o.1 i.o.2 a3.o J.o ax ac ab az aC ag an;obtain⟨aM,aK,Q⟩:=ac.shape;obtain⟨a7,aV,Y⟩:=Zg ab;obtain⟨la,ln,lc,ta,tn,tc,aN,a5⟩:=ag.shape
  dsimp only at aN a5
  generalize aq:R.1.recs.length=a1 at Q;generalize ar:R.1.pcs.length=aU at Y;clear aq ar ac ab ag an aP aL;subst Q Y aN a5;have aW:Hid (Below c.heap.size c D):=ZZ (J.o.trans (ax.mono J.o.size))
  have m:Hid (Bk 76 D a.heap.size (ZsL pd (.slice u z B))):=ZZ (by
   have h0:Bk 76 c a.heap.size (ZsL pd (.slice u z B)):=by rw[a3.o];exact heap_alloc_new a _
   exact h0.keep (aW.o.block _ (by have:=aY.o;omega)))
  obtain⟨H,O⟩:∃ H,H=ZnB D a.heap.size (.int .i64 R.1.first) (.slice aM a1 aK) (.slice a7 aU aV) (.int .i64 R.2.idx) (.int .i64 R.2.st.kind) (.slice la ln lc) (.bool R.2.st.shut) (.int .i64 R.2.st.eng) (.slice ta tn tc):=⟨_,rfl⟩;have bl:Hid (Qj (fun k=>k=a.heap.size) D H):=ZZ (by rw[O];exact Zko _ _ _ _ _ _ _ _ _ _ _)
  rw[<-O] at av;have aD:Hid (g.heap.size<=a.heap.size):=ZZ i.o.1.old.size;have aZ:Hid (Below g.heap.size g D):=ZZ (ay.o.trans (aW.o.mono ay.o.size));have af:Hid (Below g.heap.size g H):=ZZ (aZ.o.trans (bl.o.below aZ.o.size (fun k hk=>by rw[hk];exact aD.o)))
  have aF:Hid (SD K H pd a.heap.size ⟨R.1,Yd d kind,R.2,0,0,false⟩ d N T):=ZZ (by
   have bB:=aD.o;have bD:=aY.o;have bx:=J.o.size
   have hM:∀ k,(k=a.heap.size∨(Value.slice aM a1 aK).ownBlock=some k∨(Value.slice a7 aU aV).ownBlock=some k∨(Value.slice u z B).ownBlock=some k)->g.heap.size<=k:=fun k hk=>by
    rcases hk with hk | hk | hk | hk
    ·omega
    ·have:=az k hk;omega
    ·have:=aC k hk;omega
    ·exact i.o.1.far k hk
   have hI:∀ k,(I k∨(t.heap.size<=k∧k<D.heap.size))->g.heap.size<=k:=fun k hk=>by
    rcases hk with hk | hk
    ·exact i.o.1.lo k hk
    ·omega
   refine⟨F,_,_,_,HD.o.below af.o,av,aa.o.1,fun k hk v=>?_,fun k hk v=>?_,fun k hk v=>?_,fun k hk v=>?_⟩
   ·have:=hM k hk;have:=aa.o.2 k v;omega
   ·have:=hI k hk;have:=aa.o.2 k v;omega
   ·have:=hM k v;have:=HD.o.ltF k hk;omega
   ·have:=hI k v;have:=HD.o.ltF k hk;omega)
  have bd:Hid (ZoJ ⟨R.1,Yd d kind,R.2,0,0,false⟩):=ZZ (by
   have b:=aS.o.num;rw[ak.o] at b
   exact⟨b.f0,b.f1,(Qk (by decide) (by decide):I64 0),(Qk (by decide) (by decide):I64 0)⟩)
  have am:=ZZ (aF.o.next bd.o);have bj:Hid ((⟨R.1,Yd d kind,R.2,0,0,false⟩:Sto).next=R.1.next):=ZZ rfl;rw[bj.o] at am;obtain⟨z1,y1⟩:=m.o.cell 1 rfl;obtain⟨z2,y2⟩:=m.o.cell 2 rfl;obtain⟨z3,y3⟩:=m.o.cell 3 rfl;obtain⟨z5,y5⟩:=m.o.cell 5 rfl;obtain⟨z6,y6⟩:=m.o.cell 6 rfl;obtain⟨z7,y7⟩:=m.o.cell 7 rfl;obtain⟨z8,y8⟩:=m.o.cell 8 rfl;obtain⟨z9,y9⟩:=m.o.cell 9 rfl;obtain⟨bb,bm⟩:=m.o.cell 10 rfl;unfold snV snC
  dsimp only
  unfold ZnB at O;clear av az aC ax aO a8 hR i aR X a6 ap ad U ao
  go_upto_region 7 with fail
  rw[<-O];clear O z1 y1 z2 y2 z3 y3 z5 y5 z6 y6 z7 y7 z8 y8 z9 y9 bb bm
  go_wp2_with fail
  refine am.o.mono ?_;rintro e W7 ⟨rfl,C⟩;have bz:=ZZ C;obtain⟨⟨-,bf,-,-⟩,fz⟩:=(aF.o.below C).cells;have bw:=fz 11
  have bq:Hid (SD K (W7.setCell ⟨a.heap.size,11,none⟩ (.int .i64 R.1.next)) pd a.heap.size S d N T):=ZZ (by
   have b:=((aF.o.below C).synced (fun k hk=>by have:=aa.o.2 k hk;have:=af.o.size;have:=C.size;omega)).1
   have e:S=Zbw ⟨R.1,Yd d kind,R.2,0,0,false⟩:=by rw[ak.o];rfl
   rw[e]
   exact b)
  have bg:Hid (Below g.heap.size g (W7.setCell ⟨a.heap.size,11,none⟩ (.int .i64 R.1.next))):=ZZ ((af.o.trans (C.mono af.o.size)).setCell (p:=⟨a.heap.size,11,none⟩) aD.o _);generalize R.1.next=nx at *
  dsimp only at bf
  clear C fz am;go_wp2;go_ret2;exact .inr ⟨be.o,_,rfl,bq.o,bg.o⟩
end Go.Proofs.YtnahjngbneicaaaGreatDoor
