import Derived.Test.YtnahjngbneicaaaGreatDoorStoreX
namespace Go.Proofs.YtnahjngbneicaaaGreatDoor
set_option linter.unusedSimpArgs false
open _root_.Go.Proofs.Tryz
set_option maxRecDepth 100000
open Go.RowKit
variable {a w:World} {I:Nat->Prop} {bv:Value} {bs:List (Q0 × Value × Value)} {bases:List Q0} {pd:Nat}
def ZqC (b:List Q0):Sto:=⟨ZaF,b,Yf,0,0,false⟩
def Zuk (pd:Nat) (bv:Value):Array Value:=
 #[ptr pd,.int .i64 0,.slice none 0 0,.slice none 0 0,bv,.int .i64 0,.int .i64 0,.slice none 0 0,.bool false,.int .i64 0,.slice none 0 0,.int .i64 0,.int .i64 0,.bool false]
theorem Zwu {f:Value} {j:List Int} (pd:Nat) (h:Gy w I f j bv bs a) (e:bs.map Prod.fst=bases):
 Jr (fun k=>k=a.heap.size∨bv.ownBlock=some k) I (a.alloc (.cells (Zuk pd bv) 76)) a.heap.size pd ⟨.slice none 0 0,.slice none 0 0,bv,.slice none 0 0,.slice none 0 0,bs⟩ (ZqC bases):=by
 have i:=Z3 a (.cells (Zuk pd bv) 76);have l:(a.alloc (.cells (Zuk pd bv) 76)).heap.size=a.heap.size+1:=by simp
 have c:=h.below i;refine⟨zak a _,Xl.nil _ _,zck _ _ _ _,c.row,e,⟨RdI.nil _,RdE.nil _,(Qo (by decide) (by decide):I64 0),(Qo (by decide) (by decide):I64 0),(Qo (by decide) (by decide):I64 0)⟩,c.each,.inl rfl,(fun g b=>by cases b),(fun g b=>by cases b),fun g b=>.inr b,⟨.inl rfl,.inl rfl⟩,c.ibs,fun k hk=>?_,c.ltI,fun k hk d=>?_⟩
 ·rcases hk with hk | hk
  ·omega
  ·exact c.ltB k hk
 ·rcases hk with hk | hk
  ·have:=h.ltI k d
   omega
  ·exact h.dis k d hk
def ZoH (W:World) (p:Nat) (f rv pv x0 x1 x2 x3 x4 x5:Value):World:=
 ((((((((W.setCell ⟨p,1,none⟩ f).setCell ⟨p,2,none⟩ rv).setCell ⟨p,3,none⟩ pv).setCell ⟨p,5,none⟩ x0).setCell ⟨p,6,none⟩ x1).setCell ⟨p,7,none⟩ x2).setCell ⟨p,8,none⟩ x3).setCell ⟨p,9,none⟩ x4).setCell ⟨p,10,none⟩ x5
theorem Zlh (W:World) (p:Nat) (f rv pv d e i c g b:Value):Ql (fun k=>k=p) W (ZoH W p f rv pv d e i c g b):=by
 have a:p<W.heap.size->(fun k=>k=p) p:=fun _=>rfl
 exact(((((((((Ql.refl (fun k=>k=p) W).setCell 1 a f).setCell 2 a rv).setCell 3 a pv).setCell 5 a d).setCell 6 a e).setCell 7 a i).setCell 8 a c).setCell 9 a g).setCell 10 a b
theorem ZtP {W:World} {p:Nat} (h:Bk 76 W p (Zuk pd bv)) (f rv pv c d g b e a:Value):Bk 76 (ZoH W p f rv pv c d g b e a) p #[ptr pd,f,rv,pv,bv,c,d,g,b,e,a,.int .i64 0,.int .i64 0,.bool false]:=by
 have i:=((((((((h.set 1 f).set 2 rv).set 3 pv).set 5 c).set 6 d).set 7 g).set 8 b).set 9 e).set 10 a;simp only [Zuk,zad,zal,zam] at i;unfold ZoH;exact i
theorem Zwv {c f b:World} {H:Value} {M:List Int} {rv pv d e:Value} {r:Lgb × Q0} (pd:Nat) (h:Gy w I H M bv bs a) (F:bs.map Prod.fst=bases) (t:c=a.alloc (.cells (Zuk pd bv) 76))
 (u:Below c.heap.size c f) (A:Below f.heap.size f b) (D:Xl b 0 rv r.1.recs) (K:b.ownsRow 0 108 3 pv r.1.pcs.length (Q7 r.1.pcs)) (j:∀ k,rv.ownBlock=some k->c.heap.size<=k∧k<f.heap.size) (l:∀ k,pv.ownBlock=some k->c.heap.size<=k∧k<f.heap.size)
 (C:SnR b (r.2,d,e)) (B:Zma (fun k=>I k∨(f.heap.size<=k∧k<b.heap.size)) (r.2,d,e)):
 Jr (fun k=>k=a.heap.size∨rv.ownBlock=some k∨pv.ownBlock=some k∨bv.ownBlock=some k) (fun k=>I k∨(f.heap.size<=k∧k<b.heap.size)) (ZoH b a.heap.size (.int .i64 r.1.first) rv pv (.int .i64 r.2.idx) (.int .i64 r.2.st.kind) d (.bool r.2.st.shut) (.int .i64 r.2.st.eng) e) a.heap.size pd ⟨rv,pv,bv,d,e,bs⟩ ⟨r.1,bases,r.2,0,0,false⟩:=by
 have v:Below a.heap.size a c:=by rw[t];exact Z3 _ _
 have S:c.heap.size=a.heap.size+1:=by rw[t];simp
 have R:=u.size;have Q:=A.size;have y:Below c.heap.size c b:=u.trans (A.mono u.size);have J:Below a.heap.size a b:=v.trans (y.mono v.size);have n:=h.below J
 have O:Bk 76 b a.heap.size (Zuk pd bv):=by
  have L:Bk 76 c a.heap.size (Zuk pd bv):=by rw[t];exact zak a _
  exact L.keep (y.block _ (by omega))
 have q:=Zlh b a.heap.size (.int .i64 r.1.first) rv pv (.int .i64 r.2.idx) (.int .i64 r.2.st.kind) d (.bool r.2.st.shut) (.int .i64 r.2.st.eng) e
 have z:Bk 76 (ZoH b a.heap.size (.int .i64 r.1.first) rv pv (.int .i64 r.2.idx) (.int .i64 r.2.st.kind) d (.bool r.2.st.shut) (.int .i64 r.2.st.eng) e) a.heap.size (stC pd ⟨rv,pv,bv,d,e,bs⟩ ⟨r.1,bases,r.2,0,0,false⟩):=
  ZtP O _ _ _ _ _ _ _ _ _
 obtain⟨p,G⟩:=zg7 (ZoH b a.heap.size (.int .i64 r.1.first) rv pv (.int .i64 r.2.idx) (.int .i64 r.2.st.kind) d (.bool r.2.st.shut) (.int .i64 r.2.st.eng) e);rw[<-G] at q z ⊢;have P:=q.size;have i:∀ k,k<b.heap.size->k≠a.heap.size->p.heap[k]?=b.heap[k]?:=fun k E N=>q.block k E N
 have g:∀ k,(I k∨(f.heap.size<=k∧k<b.heap.size))->k<b.heap.size∧k≠a.heap.size:=fun k hk'=>by
  rcases hk' with hk' | hk'
  ·have:=h.ltI k hk'
   omega
  ·omega
 refine⟨z,Qh D fun k hk'=>i k (by have:=j k hk';omega) (by have:=j k hk';omega),Qh K fun k hk'=>i k (by have:=l k hk';omega) (by have:=l k hk';omega),Qh n.row fun k hk'=>i k (n.ltB k hk') (by have:=h.ltB k hk';omega),F,?_,?_,.inl rfl,fun k hk'=>.inr (.inl hk'),fun k hk'=>.inr (.inr (.inl hk')),fun k hk'=>.inr (.inr (.inr hk')),B,fun x m=>(h.ibs x m).mono (fun k hk'=>.inl hk'),fun k hk'=>?_,fun k hk'=>?_,fun k hk' hi'=>?_⟩
 ·exact C.keep B fun k hk'=>i k (g k hk').1 (g k hk').2
 ·exact fun x m=>(n.each x m).keep (h.ibs x m) fun k hk'=>i k (g k (.inl hk')).1 (g k (.inl hk')).2
 ·rcases hk' with hk' | hk' | hk' | hk'
  ·omega
  ·have:=j k hk';omega
  ·have:=l k hk';omega
  ·have:=h.ltB k hk';omega
 ·have:=(g k hk').1
  omega
 ·rcases hk' with hk' | hk' | hk' | hk'
  ·exact(g k hi').2 hk'
  ·have:=j k hk'
   rcases hi' with hi' | hi'
   ·have:=h.ltI k hi';omega
   ·omega
  ·have:=l k hk'
   rcases hi' with hi' | hi'
   ·have:=h.ltI k hi';omega
   ·omega
  ·rcases hi' with hi' | hi'
   ·exact h.dis k hi' hk'
   ·have:=h.ltB k hk';omega
theorem ZmD {B n s:Nat} {t:TypeId} {v:Value} {xs:List Value} (h:w.ownsRow B t s v n xs):w.ownsRow 0 t s v n xs:=ZaS h fun _ _=>zap _
def Zww (K:Nat->Prop) (w:World) (pd:Nat) (d:Dk) (kind:Int) (N T:Nat) (e:Ending) (w':World):Prop:=
 (ZgT d kind≠0∧e=.returned (.tuple #[.pointer none,.int .i64 (ZgT d kind)])∧w'=w)∨
 (ZgT d kind=0∧∃ p,e=.returned (.tuple #[ptr p,.int .i64 0])∧SD K w' pd p (ZbA d kind) d N T∧Below w.heap.size w w')
theorem ZqD (d:Dk) (kind:Int):(kind<0∨6<=kind)∧ZgT d kind=1∨(0<=kind∧kind<6∧d.power=0∧ZgT d kind=11)∨(0<=kind∧kind<6∧d.power≠0∧ZgT d kind=0):=by
 unfold ZgT;by_cases h:kind<0∨6<=kind
 ·exact .inl ⟨h,zab h⟩
 ·rw[zaa h]
  by_cases a:d.power=0
  ·exact .inr (.inl ⟨by omega,by omega,a,zab a⟩)
  ·exact .inr (.inr ⟨by omega,by omega,a,zaa a⟩)
set_option maxHeartbeats 4000000 in
theorem ZrA {K F:Nat->Prop} {d:Dk} {N T Fn Bn:Nat} (kind:Int) (w:World) (h:Dsk F w pd d N T) (a9:∀ k,F k->¬ K k) (hK:∀ k,K k->k<w.heap.size) (hN:N<=1000000) (hT:T<=1000000000) (q:SzD d Fn Bn) (br:Fn<=900) (bo:Bn<=90000) (bq:Fn*Bn<=9000000):
 Calls prog 13 #[ptr pd,.int .i64 kind] w fun e w'=>Zww K w pd d kind N T e w':=by
 rcases ZqD d kind with ⟨hk,j⟩ | ⟨V,J,U,j⟩ | ⟨V,J,U,j⟩
 ·have HE:Hid (Zww K w pd d kind N T (.returned (.tuple #[.pointer none,.int .i64 1])) w):=ZZ (.inl ⟨by rw[j];decide,by rw[j],rfl⟩)
  clear h q j;by_cases b:kind<0
  ·have ar:decide (kind<0)=true:=zan b
   go_enter func13,ntmps13
   go_wp2;go_ret2;exact HE.o
  ·have ar:decide (kind<0)=false:=zai b
   have a2:decide (kind ≥ 6)=true:=zan (by omega)
   go_enter func13,ntmps13
   go_wp2;go_ret2;exact HE.o
 ·have HE:Hid (Zww K w pd d kind N T (.returned (.tuple #[.pointer none,.int .i64 11])) w):=ZZ (.inl ⟨by rw[j];decide,by rw[j],rfl⟩)
  have Z:Hid (Calls prog 33 #[ptr pd] w fun e w'=>e=.returned (.bool false)∧w'=w):=ZZ (by
   obtain⟨L,b,-⟩:=h;have:=Zni w b;rw[show(d.power != 0)=false by rw[U];rfl] at this
   exact this)
  have ar:decide (kind<0)=false:=zai (by omega)
  have a2:decide (kind ≥ 6)=false:=zai (by omega)
  clear h q j U
  go_enter func13,ntmps13
  go_wp2_with fail
  refine Z.o.mono ?_;rintro e a ⟨rfl,rfl⟩;go_wp2;go_ret2;exact HE.o
 ·have Z:Hid (Calls prog 33 #[ptr pd] w fun e w'=>e=.returned (.bool true)∧w'=w):=ZZ (by
   obtain⟨L,b,-⟩:=h;have:=Zni w b;rw[show(d.power != 0)=true by rw[zbq];exact U] at this
   exact this)
  have ar:decide (kind<0)=false:=zai (by omega)
  have a2:decide (kind ≥ 6)=false:=zai (by omega)
  have Q:OkD d:=by obtain⟨L,-,h2,-⟩:=h;exact h2
  have al:∀ n,(Zu d n).1.length<=90000:=fun n=>zau (q.read n) bo
  have aP:=ZZ (ZmA kind w h hN hT al);have aS:=ZZ (fun W (hb:Below w.heap.size w W)=>Zqt kind W (h.below hb) hN hT V J al (fun n f l hs=>Zwl hs) (Zyk kind q Q br bq))
  have aZ:=ZZ (fun(I:Nat->Prop) rv pv x W hr hp v hi hlt hs=>ZtO I (Jq d kind) rv pv x W hr hp v hi hlt (Zry d kind) hs (by
   have b:=(Zlb kind q Q).1
   omega) (by have:=(Zlb kind q Q).2;omega))
  have ac:Hid ((Ya d kind).length≠0∧(Ya d kind).length<=1000∧∀ x ∈ Ya d kind,SnS x):=ZZ ⟨fun e=>(Zdt (d:=d) V J).2 (zao e),by have:=Zld (kind:=kind) q Q;omega,fun x v=>((Zdt (d:=d) V J).1 x v).1.snS⟩
  have aY:=ZZ (Zfl (d:=d) V J);have HD:=ZZ h;have aa:=ZZ (And.intro a9 hK);have bj:=ZZ j;obtain⟨G,ab⟩:=zg7 (ZbA d kind);have an:Hid (G=⟨((Jq d kind).behind (Gc (Ya d kind))).1,Ya d kind,((Jq d kind).behind (Gc (Ya d kind))).2,((Jq d kind).behind (Gc (Ya d kind))).1.next,0,false⟩):=ZZ ab;rw[<-ab] at aY;unfold Zww;rw[<-ab];clear h q U Q al j a9 hK ab
  go_enter func13,ntmps13
  go_wp2_with fail
  refine Z.o.mono ?_;rintro e i ⟨rfl,rfl⟩
  go_wp2_with fail
  refine aP.o.mono ?_;rintro e a ⟨bv,bs,I,v0,l0,rfl,aF,C⟩;have g:=ZZ (And.intro C aF);obtain⟨B,t,a0⟩:=Je C.row;generalize bi:bs.length=y at a0;clear bi;subst a0;obtain⟨c,z⟩:=zg7 (a.alloc (.cells (Zuk pd (.slice B y t)) 76));have a7:=ZZ z;have aq:Hid (Below a.heap.size a c):=ZZ (by rw[z];exact Z3 _ _)
  have ap:Hid (Below i.heap.size i c):=ZZ (C.old.trans (aq.o.mono C.old.size));have a6:Hid (Jr (fun k=>k=a.heap.size∨(Value.slice B y t).ownBlock=some k) I c a.heap.size pd ⟨.slice none 0 0,.slice none 0 0,.slice B y t,.slice none 0 0,.slice none 0 0,bs⟩ (ZqC (Ya d kind))):=ZZ (by rw[z];exact Zwu pd C aF)
  have aW:c.heap.size=a.heap.size+1:=by rw[z];simp
  have aK:=ZZ aW;unfold Zuk at z;clear C aF aP Z aW
  go_upto_region 6 with fail
  rw[<-z];clear z
  go_wp2_with fail
  refine(aS.o c ap.o).mono ?_;rintro e W3 ⟨rv,pv,rfl,aG,aH,az⟩;have ax:=ZZ az;have ao:=ZZ aG;have ag:=ZZ aH;have a8:=ZZ (Zmc W3 (a6.o.below az) (by exact ac.o.1) (by have:=ac.o.2.1;exact zau this (by decide)))
  obtain⟨ra,rc,M⟩:=aG.shape;obtain⟨pa,pc,X⟩:=Je aH;generalize aw:(Jq d kind).recs.length=rn at M;generalize au:(Jq d kind).pcs.length=pn at X;clear aw au aG aH az aS;subst M X;obtain⟨x,v⟩:=zg7 (Zbm bs)
  have S:Hid (x ∈ bs∧x.1=Gc (Ya d kind)):=ZZ (by
   rw[v];refine⟨ZeU ?_,?_⟩
   ·intro e
    have:=ac.o.1;rw[<-g.o.2,zda] at this;exact this e
   ·have:=ZfY (L:=⟨.slice none 0 0,.slice none 0 0,.slice B y t,.slice none 0 0,.slice none 0 0,bs⟩) (s:=ZqC (Ya d kind)) g.o.2
    exact this)
  have aE:Hid (Calls prog 37 #[ptr a.heap.size] W3 fun e w'=>e=.returned (snV x)∧Below W3.heap.size W3 w'):=ZZ (by rw[v];exact a8.o)
  clear a8 v;generalize a5:snV x=sx at aE;have aT:=ZZ a5;clear a5
  go_wp2_with fail
  refine aE.o.mono ?_;rintro e u ⟨rfl,aD⟩;have H:=ZZ aD;have Y:Hid (Below c.heap.size c u):=ZZ (ax.o.trans (aD.mono ax.o.size));clear aD aE
  have aM:Hid (Calls prog 36 #[.agg #[.int .i64 (Jq d kind).first,.slice ra rn rc,.slice pa pn pc],sx] u fun e w'=>Zcp I u (.slice ra rn rc) (.slice pa pn pc) ((Jq d kind).behind (Gc (Ya d kind))) e w'):=ZZ (by
   have aU:=g.o.1.below (aq.o.trans (Y.o.mono aq.o.size));rw[<-S.o.2,<-aT.o]
   exact aZ.o I _ _ x u ((ao.o.below H.o zL).own0) (Qh (ZmD ag.o) fun k hk=>H.o.block k (zaz ag.o k hk).2) (aU.each x S.o.1) (g.o.1.ibs x S.o.1) aU.ltI (ac.o.2.2 _ (by rw[<-g.o.2];exact zbm.2 ⟨x,S.o.1,rfl⟩)))
  generalize bC:(Jq d kind).first=gf at *
  go_wp2_with fail
  refine aM.o.mono ?_;rintro e E ⟨bp,bt,bD,bz,rfl,ae,af,aL,a1,ai,am,aB⟩;obtain⟨R,hR⟩:=zg7 ((Jq d kind).behind (Gc (Ya d kind)));rw[<-hR] at an ae af ai am;rw[<-hR]
  have av:∀ k,bp.ownBlock=some k->c.heap.size<=k∧k<u.heap.size:=fun k hk=>by
   rcases aL with e | e
   ·rw[e] at hk
    have b:=zaz ao.o k hk;have:=H.o.size;omega
   ·rw[e] at hk;cases hk
  have ay:∀ k,bt.ownBlock=some k->c.heap.size<=k∧k<u.heap.size:=fun k hk=>by
   rcases a1 with e | e
   ·rw[e] at hk
    have b:=zaz ag.o k hk;have:=H.o.size;omega
   ·rw[e] at hk;cases hk
  have ak:=Zwv pd g.o.1 g.o.2 a7.o Y.o aB ae af av ay ai am;obtain⟨aX,aO,M⟩:=ae.shape;obtain⟨aR,aV,X⟩:=Je af;obtain⟨la,ln,lc,ta,tn,tc,a3,a4⟩:=ai.shape
  dsimp only at a3 a4
  generalize aw:R.1.recs.length=aJ at M;generalize au:R.1.pcs.length=aN at X;clear aw au ae af ai am aL a1;subst M X a3 a4;have aI:Hid (Below c.heap.size c E):=ZZ (Y.o.trans (aB.mono Y.o.size))
  have m:Hid (Bk 76 E a.heap.size (Zuk pd (.slice B y t))):=ZZ (by
   have h0:Bk 76 c a.heap.size (Zuk pd (.slice B y t)):=by rw[a7.o];exact zak a _
   exact h0.keep (aI.o.block _ (by have:=aK.o;omega)))
  obtain⟨O,P⟩:=zg7 (ZoH E a.heap.size (.int .i64 R.1.first) (.slice aX aJ aO) (.slice aR aN aV) (.int .i64 R.2.idx) (.int .i64 R.2.st.kind) (.slice la ln lc) (.bool R.2.st.shut) (.int .i64 R.2.st.eng) (.slice ta tn tc));have bg:Hid (Ql (fun k=>k=a.heap.size) E O):=ZZ (by rw[P];exact Zlh _ _ _ _ _ _ _ _ _ _ _)
  rw[<-P] at ak;have aC:Hid (i.heap.size<=a.heap.size):=ZZ g.o.1.old.size;have aQ:Hid (Below i.heap.size i E):=ZZ (ap.o.trans (aI.o.mono ap.o.size));have ad:Hid (Below i.heap.size i O):=ZZ (aQ.o.trans (bg.o.below aQ.o.size (fun k hk=>by rw[hk];exact aC.o)))
  have aA:Hid (SD K O pd a.heap.size ⟨R.1,Ya d kind,R.2,0,0,false⟩ d N T):=ZZ (by
   have bB:=aC.o;have bu:=aK.o;have bA:=Y.o.size
   have hM:∀ k,(k=a.heap.size∨(Value.slice aX aJ aO).ownBlock=some k∨(Value.slice aR aN aV).ownBlock=some k∨(Value.slice B y t).ownBlock=some k)->i.heap.size<=k:=fun k hk=>by
    rcases hk with hk | hk | hk | hk
    ·omega
    ·have:=av k hk;omega
    ·have:=ay k hk;omega
    ·exact g.o.1.far k hk
   have hI:∀ k,(I k∨(u.heap.size<=k∧k<E.heap.size))->i.heap.size<=k:=fun k hk=>by
    rcases hk with hk | hk
    ·exact g.o.1.lo k hk
    ·omega
   refine⟨F,_,_,_,HD.o.below ad.o,ak,aa.o.1,fun k hk A=>?_,fun k hk A=>?_,fun k hk A=>?_,fun k hk A=>?_⟩
   ·have:=hM k hk;have:=aa.o.2 k A;omega
   ·have:=hI k hk;have:=aa.o.2 k A;omega
   ·have:=hM k A;have:=HD.o.ltF k hk;omega
   ·have:=hI k A;have:=HD.o.ltF k hk;omega)
  have bk:Hid (ZpV ⟨R.1,Ya d kind,R.2,0,0,false⟩):=ZZ (by
   have b:=aY.o.num;rw[an.o] at b
   exact⟨b.f0,b.f1,(Qo (by decide) (by decide):I64 0),(Qo (by decide) (by decide):I64 0)⟩)
  have aj:=ZZ (aA.o.next bk.o);have bd:Hid ((⟨R.1,Ya d kind,R.2,0,0,false⟩:Sto).next=R.1.next):=ZZ rfl;rw[bd.o] at aj;obtain⟨z1,y1⟩:=m.o.cell 1 rfl;obtain⟨z2,y2⟩:=m.o.cell 2 rfl;obtain⟨z3,y3⟩:=m.o.cell 3 rfl;obtain⟨z5,y5⟩:=m.o.cell 5 rfl;obtain⟨z6,y6⟩:=m.o.cell 6 rfl;obtain⟨z7,y7⟩:=m.o.cell 7 rfl;obtain⟨z8,y8⟩:=m.o.cell 8 rfl;obtain⟨z9,y9⟩:=m.o.cell 9 rfl;obtain⟨bl,bf⟩:=m.o.cell 10 rfl;unfold snV snC
  dsimp only
  unfold ZoH at P;clear ak av ay aB aM aZ hR g a6 S aT ao ag H ax
  go_upto_region 7 with fail
  rw[<-P];clear P z1 y1 z2 y2 z3 y3 z5 y5 z6 y6 z7 y7 z8 y8 z9 y9 bl bf
  go_wp2_with fail
  refine aj.o.mono ?_;rintro e W7 ⟨rfl,D⟩;have bx:=ZZ D;obtain⟨⟨-,be,-,-⟩,fz⟩:=(aA.o.below D).cells;have bw:=fz 11
  have bm:Hid (SD K (W7.setCell ⟨a.heap.size,11,none⟩ (.int .i64 R.1.next)) pd a.heap.size G d N T):=ZZ (by
   have b:=((aA.o.below D).synced (fun k hk=>by have:=aa.o.2 k hk;have:=ad.o.size;have:=D.size;omega)).1
   have e:G=Yi ⟨R.1,Ya d kind,R.2,0,0,false⟩:=by rw[an.o];rfl
   rw[e]
   exact b)
  have bb:Hid (Below i.heap.size i (W7.setCell ⟨a.heap.size,11,none⟩ (.int .i64 R.1.next))):=ZZ ((ad.o.trans (D.mono ad.o.size)).setCell (p:=⟨a.heap.size,11,none⟩) aC.o _);generalize R.1.next=nx at *
  dsimp only at be
  clear D fz aj;go_wp2;go_ret2;exact .inr ⟨bj.o,_,rfl,bm.o,bb.o⟩
end Go.Proofs.YtnahjngbneicaaaGreatDoor
