import Derived.Test.YtnahjngbneicaaaGreatDoorStoreX
namespace Go.Proofs.YtnahjngbneicaaaGreatDoor
open _root_.Go.Proofs.Tryz
set_option maxRecDepth 100000
open Go.RowKit
variable {a w:World} {I:Nat->Prop} {bv f:Value} {bs:List (Q0 × Value × Value)} {bases:List Q0} {pd:Nat}
def Zqr (b:List Q0):Sto:=⟨ZaE,b,Yb,0,0,false⟩
def ZtQ (pd:Nat) (bv:Value):Array Value:=
 #[ptr pd,.int .i64 0,.slice none 0 0,.slice none 0 0,bv,.int .i64 0,.int .i64 0,.slice none 0 0,.bool false,.int .i64 0,.slice none 0 0,.int .i64 0,.int .i64 0,.bool false]
theorem Zwd {i:List Int} (pd:Nat) (h:Gt w I f i bv bs a) (e:bs.map Prod.fst=bases):
 Jq (fun k=>k=a.heap.size∨bv.ownBlock=some k) I (a.alloc (.cells (ZtQ pd bv) 76)) a.heap.size pd ⟨.slice none 0 0,.slice none 0 0,bv,.slice none 0 0,.slice none 0 0,bs⟩ (Zqr bases):=by
 have j:=Jw a (.cells (ZtQ pd bv) 76);have l:(a.alloc (.cells (ZtQ pd bv) 76)).heap.size=a.heap.size+1:=by simp
 have c:=h.below j;refine⟨zaf a _,Xj.nil _ _,zcb _ _ _ _,c.row,e,⟨RdI.nil _,RdE.nil _,(Qo (by decide) (by decide):I64 0),(Qo (by decide) (by decide):I64 0),(Qo (by decide) (by decide):I64 0)⟩,c.each,.inl rfl,(fun g b=>by cases b),(fun g b=>by cases b),fun g b=>.inr b,⟨.inl rfl,.inl rfl⟩,c.ibs,fun k hk=>?_,c.ltI,fun k hk d=>?_⟩
 ·rcases hk with hk | hk
  ·omega
  ·exact c.ltB k hk
 ·rcases hk with hk | hk
  ·have:=h.ltI k d
   omega
  ·exact h.dis k d hk
def Zop (W:World) (p:Nat) (f rv pv x0 x1 x2 x3 x4 x5:Value):World:=
 ((((((((W.setCell ⟨p,1,none⟩ f).setCell ⟨p,2,none⟩ rv).setCell ⟨p,3,none⟩ pv).setCell ⟨p,5,none⟩ x0).setCell ⟨p,6,none⟩ x1).setCell ⟨p,7,none⟩ x2).setCell ⟨p,8,none⟩ x3).setCell ⟨p,9,none⟩ x4).setCell ⟨p,10,none⟩ x5
theorem ZkT (W:World) (p:Nat) (f rv pv i d b c g e:Value):Ql (fun k=>k=p) W (Zop W p f rv pv i d b c g e):=by
 have a:p<W.heap.size->(fun k=>k=p) p:=fun _=>rfl
 exact(((((((((Ql.refl (fun k=>k=p) W).setCell 1 a f).setCell 2 a rv).setCell 3 a pv).setCell 5 a i).setCell 6 a d).setCell 7 a b).setCell 8 a c).setCell 9 a g).setCell 10 a e
theorem Ztv {W:World} {p:Nat} (h:Bk 76 W p (ZtQ pd bv)) (f rv pv g c a b e d:Value):Bk 76 (Zop W p f rv pv g c a b e d) p #[ptr pd,f,rv,pv,bv,g,c,a,b,e,d,.int .i64 0,.int .i64 0,.bool false]:=by
 have i:=((((((((h.set 1 f).set 2 rv).set 3 pv).set 5 g).set 6 c).set 7 a).set 8 b).set 9 e).set 10 d;simp only [ZtQ,zdl,zf9,zga] at i;unfold Zop;exact i
theorem Zwe {c d b:World} {G:Value} {J:List Int} {rv pv e:Value} {r:Lgb × Q0} (pd:Nat) (h:Gt w I G J bv bs a) (C:bs.map Prod.fst=bases) (u:c=a.alloc (.cells (ZtQ pd bv) 76))
 (t:Below c.heap.size c d) (B:Below d.heap.size d b) (L:Xj b 0 rv r.1.recs) (N:b.ownsRow 0 108 3 pv r.1.pcs.length (Q6 r.1.pcs)) (l:∀ k,rv.ownBlock=some k->c.heap.size<=k∧k<d.heap.size) (j:∀ k,pv.ownBlock=some k->c.heap.size<=k∧k<d.heap.size)
 (H:SnR b (r.2,e,f)) (y:Zmp (fun k=>I k∨(d.heap.size<=k∧k<b.heap.size)) (r.2,e,f)):
 Jq (fun k=>k=a.heap.size∨rv.ownBlock=some k∨pv.ownBlock=some k∨bv.ownBlock=some k) (fun k=>I k∨(d.heap.size<=k∧k<b.heap.size)) (Zop b a.heap.size (.int .i64 r.1.first) rv pv (.int .i64 r.2.idx) (.int .i64 r.2.st.kind) e (.bool r.2.st.shut) (.int .i64 r.2.st.eng) f) a.heap.size pd ⟨rv,pv,bv,e,f,bs⟩ ⟨r.1,bases,r.2,0,0,false⟩:=by
 have z:Below a.heap.size a c:=by rw[u];exact Jw _ _
 have P:c.heap.size=a.heap.size+1:=by rw[u];simp
 have R:=t.size;have Q:=B.size;have A:Below c.heap.size c b:=t.trans (B.mono t.size);have D:Below a.heap.size a b:=z.trans (A.mono z.size);have n:=h.below D
 have M:Bk 76 b a.heap.size (ZtQ pd bv):=by
  have E:Bk 76 c a.heap.size (ZtQ pd bv):=by rw[u];exact zaf a _
  exact E.keep (A.block _ (by omega))
 have q:=ZkT b a.heap.size (.int .i64 r.1.first) rv pv (.int .i64 r.2.idx) (.int .i64 r.2.st.kind) e (.bool r.2.st.shut) (.int .i64 r.2.st.eng) f
 have v:Bk 76 (Zop b a.heap.size (.int .i64 r.1.first) rv pv (.int .i64 r.2.idx) (.int .i64 r.2.st.kind) e (.bool r.2.st.shut) (.int .i64 r.2.st.eng) f) a.heap.size (stC pd ⟨rv,pv,bv,e,f,bs⟩ ⟨r.1,bases,r.2,0,0,false⟩):=
  Ztv M _ _ _ _ _ _ _ _ _
 obtain⟨p,F⟩:=zgy (Zop b a.heap.size (.int .i64 r.1.first) rv pv (.int .i64 r.2.idx) (.int .i64 r.2.st.kind) e (.bool r.2.st.shut) (.int .i64 r.2.st.eng) f);rw[<-F] at q v ⊢;have S:=q.size;have i:∀ k,k<b.heap.size->k≠a.heap.size->p.heap[k]?=b.heap[k]?:=fun k O K=>q.block k O K
 have g:∀ k,(I k∨(d.heap.size<=k∧k<b.heap.size))->k<b.heap.size∧k≠a.heap.size:=fun k hk'=>by
  rcases hk' with hk' | hk'
  ·have:=h.ltI k hk'
   omega
  ·omega
 refine⟨v,Qh L fun k hk'=>i k (by have:=l k hk';omega) (by have:=l k hk';omega),Qh N fun k hk'=>i k (by have:=j k hk';omega) (by have:=j k hk';omega),Qh n.row fun k hk'=>i k (n.ltB k hk') (by have:=h.ltB k hk';omega),C,?_,?_,.inl rfl,fun k hk'=>.inr (.inl hk'),fun k hk'=>.inr (.inr (.inl hk')),fun k hk'=>.inr (.inr (.inr hk')),y,fun x m=>(h.ibs x m).mono (fun k hk'=>.inl hk'),fun k hk'=>?_,fun k hk'=>?_,fun k hk' hi'=>?_⟩
 ·exact H.keep y fun k hk'=>i k (g k hk').1 (g k hk').2
 ·exact fun x m=>(n.each x m).keep (h.ibs x m) fun k hk'=>i k (g k (.inl hk')).1 (g k (.inl hk')).2
 ·rcases hk' with hk' | hk' | hk' | hk'
  ·omega
  ·have:=l k hk';omega
  ·have:=j k hk';omega
  ·have:=h.ltB k hk';omega
 ·have:=(g k hk').1
  omega
 ·rcases hk' with hk' | hk' | hk' | hk'
  ·exact(g k hi').2 hk'
  ·have:=l k hk'
   rcases hi' with hi' | hi'
   ·have:=h.ltI k hi';omega
   ·omega
  ·have:=j k hk'
   rcases hi' with hi' | hi'
   ·have:=h.ltI k hi';omega
   ·omega
  ·rcases hi' with hi' | hi'
   ·exact h.dis k hi' hk'
   ·have:=h.ltB k hk';omega
theorem Zmm {B n s:Nat} {t:TypeId} {v:Value} {xs:List Value} (h:w.ownsRow B t s v n xs):w.ownsRow 0 t s v n xs:=ZaS h fun _ _=>zai _
def Zwf (K:Nat->Prop) (w:World) (pd:Nat) (d:Dk) (kind:Int) (N T:Nat) (e:Ending) (w':World):Prop:=
 (ZfB d kind≠0∧e=.returned (.tuple #[.pointer none,.int .i64 (ZfB d kind)])∧w'=w)∨
 (ZfB d kind=0∧∃ p,e=.returned (.tuple #[ptr p,.int .i64 0])∧SD K w' pd p (Zew d kind) d N T∧Below w.heap.size w w')
theorem Zqs (d:Dk) (kind:Int):(kind<0∨6<=kind)∧ZfB d kind=1∨(0<=kind∧kind<6∧d.power=0∧ZfB d kind=11)∨(0<=kind∧kind<6∧d.power≠0∧ZfB d kind=0):=by
 unfold ZfB;by_cases h:kind<0∨6<=kind
 ·exact .inl ⟨h,zab h⟩
 ·rw[zaa h]
  by_cases a:d.power=0
  ·exact .inr (.inl ⟨by omega,by omega,a,zab a⟩)
  ·exact .inr (.inr ⟨by omega,by omega,a,zaa a⟩)
set_option maxHeartbeats 4000000 in
theorem Zrj {K F:Nat->Prop} {d:Dk} {N T Fn Bn:Nat} (kind:Int) (w:World) (h:Dsk F w pd d N T) (a2:∀ k,F k->¬ K k) (hK:∀ k,K k->k<w.heap.size) (hN:N<=1000000) (hT:T<=1000000000) (q:SzD d Fn Bn) (bb:Fn<=900) (bi:Bn<=90000) (bd:Fn*Bn<=9000000):
 Calls prog 13 #[ptr pd,.int .i64 kind] w fun e w'=>Zwf K w pd d kind N T e w':=by
 rcases Zqs d kind with ⟨hk,j⟩ | ⟨J,V,U,j⟩ | ⟨J,V,U,j⟩
 ·have HE:Hid (Zwf K w pd d kind N T (.returned (.tuple #[.pointer none,.int .i64 1])) w):=ZZ (.inl ⟨by rw[j];decide,by rw[j],rfl⟩)
  clear h q j;by_cases b:kind<0
  ·have aH:decide (kind<0)=true:=zah b
   go_enter func13,ntmps13
   go_wp2;go_ret2;exact HE.o
  ·have aH:decide (kind<0)=false:=zae b
   have a3:decide (kind ≥ 6)=true:=zah (by omega)
   go_enter func13,ntmps13
   go_wp2;go_ret2;exact HE.o
 ·have HE:Hid (Zwf K w pd d kind N T (.returned (.tuple #[.pointer none,.int .i64 11])) w):=ZZ (.inl ⟨by rw[j];decide,by rw[j],rfl⟩)
  have ae:Hid (Calls prog 33 #[ptr pd] w fun e w'=>e=.returned (.bool false)∧w'=w):=ZZ (by
   obtain⟨L,b,-⟩:=h;have:=ZmR w b;rw[show(d.power != 0)=false by rw[U];rfl] at this
   exact this)
  have aH:decide (kind<0)=false:=zae (by omega)
  have a3:decide (kind ≥ 6)=false:=zae (by omega)
  clear h q j U
  go_enter func13,ntmps13
  go_wp2_with fail
  refine ae.o.mono ?_;rintro e a ⟨rfl,rfl⟩;go_wp2;go_ret2;exact HE.o
 ·have ae:Hid (Calls prog 33 #[ptr pd] w fun e w'=>e=.returned (.bool true)∧w'=w):=ZZ (by
   obtain⟨L,b,-⟩:=h;have:=ZmR w b;rw[show(d.power != 0)=true by rw[zbf];exact U] at this
   exact this)
  have aH:decide (kind<0)=false:=zae (by omega)
  have a3:decide (kind ≥ 6)=false:=zae (by omega)
  have O:OkD d:=by obtain⟨L,-,h2,-⟩:=h;exact h2
  have ak:∀ n,(Zp d n).1.length<=90000:=fun n=>zas (q.read n) bi
  have aR:=ZZ (Zmk kind w h hN hT ak);have aZ:=ZZ (fun W (hb:Below w.heap.size w W)=>Zqc kind W (h.below hb) hN hT J V ak (fun n f l hs=>ZvT hs) (ZxM kind q O bb bd))
  have aS:=ZZ (fun(I:Nat->Prop) rv pv x W hr hp B hi hlt hs=>Ztu I (Jm d kind) rv pv x W hr hp B hi hlt (Zrh d kind) hs (by
   have b:=(ZkP kind q O).1
   omega) (by have:=(ZkP kind q O).2;omega))
  have ad:Hid ((Yi d kind).length≠0∧(Yi d kind).length<=1000∧∀ x ∈ Yi d kind,SnS x):=ZZ ⟨fun e=>(ZfY (d:=d) J V).2 (zaj e),by have:=Zts (kind:=kind) q O;omega,fun x B=>((ZfY (d:=d) J V).1 x B).1.snS⟩
  have a9:=ZZ (Zfe (d:=d) J V);have HD:=ZZ h;have ai:=ZZ (And.intro a2 hK);have br:=ZZ j;obtain⟨G,Z⟩:=zgy (Zew d kind);have al:Hid (G=⟨((Jm d kind).behind (Gp (Yi d kind))).1,Yi d kind,((Jm d kind).behind (Gp (Yi d kind))).2,((Jm d kind).behind (Gp (Yi d kind))).1.next,0,false⟩):=ZZ Z;rw[<-Z] at a9;unfold Zwf;rw[<-Z];clear h q U O ak j a2 hK Z
  go_enter func13,ntmps13
  go_wp2_with fail
  refine ae.o.mono ?_;rintro e g ⟨rfl,rfl⟩
  go_wp2_with fail
  refine aR.o.mono ?_;rintro e a ⟨bv,bs,I,v0,l0,rfl,av,D⟩;have i:=ZZ (And.intro D av);obtain⟨v,z,a8⟩:=Z8 D.row;generalize be:bs.length=u at a8;clear be;subst a8;obtain⟨c,A⟩:=zgy (a.alloc (.cells (ZtQ pd (.slice v u z)) 76));have aO:=ZZ A;have aA:Hid (Below a.heap.size a c):=ZZ (by rw[A];exact Jw _ _)
  have au:Hid (Below g.heap.size g c):=ZZ (D.old.trans (aA.o.mono D.old.size));have aK:Hid (Jq (fun k=>k=a.heap.size∨(Value.slice v u z).ownBlock=some k) I c a.heap.size pd ⟨.slice none 0 0,.slice none 0 0,.slice v u z,.slice none 0 0,.slice none 0 0,bs⟩ (Zqr (Yi d kind))):=ZZ (by rw[A];exact Zwd pd D av)
  have a5:c.heap.size=a.heap.size+1:=by rw[A];simp
  have a4:=ZZ a5;unfold ZtQ at A;clear D av aR ae a5
  go_upto_region 6 with fail
  rw[<-A];clear A
  go_wp2_with fail
  refine(aZ.o c au.o).mono ?_;rintro e W3 ⟨rv,pv,rfl,aq,aD,ap⟩;have az:=ZZ ap;have aB:=ZZ aq;have ag:=ZZ aD;have aT:=ZZ (ZqT W3 (aK.o.below ap) (by exact ad.o.1) (by have:=ad.o.2.1;exact zas this (by decide)))
  obtain⟨ra,rc,S⟩:=aq.shape;obtain⟨pa,pc,H⟩:=Z8 aD;generalize ao:(Jm d kind).recs.length=rn at S;generalize aC:(Jm d kind).pcs.length=pn at H;clear ao aC aq aD ap aZ;subst S H;obtain⟨x,B⟩:=zgy (Zck bs)
  have M:Hid (x ∈ bs∧x.1=Gp (Yi d kind)):=ZZ (by
   rw[B];refine⟨Ziv ?_,?_⟩
   ·intro e
    have:=ad.o.1;rw[<-i.o.2,zcz] at this;exact this e
   ·have:=Zky (L:=⟨.slice none 0 0,.slice none 0 0,.slice v u z,.slice none 0 0,.slice none 0 0,bs⟩) (s:=Zqr (Yi d kind)) i.o.2
    exact this)
  have aj:Hid (Calls prog 37 #[ptr a.heap.size] W3 fun e w'=>e=.returned (snV x)∧Below W3.heap.size W3 w'):=ZZ (by rw[B];exact aT.o)
  clear aT B;generalize aP:snV x=sx at aj;have aU:=ZZ aP;clear aP
  go_wp2_with fail
  refine aj.o.mono ?_;rintro e t ⟨rfl,aF⟩;have Y:=ZZ aF;have Q:Hid (Below c.heap.size c t):=ZZ (az.o.trans (aF.mono az.o.size));clear aF aj
  have a0:Hid (Calls prog 36 #[.agg #[.int .i64 (Jm d kind).first,.slice ra rn rc,.slice pa pn pc],sx] t fun e w'=>Zcq I t (.slice ra rn rc) (.slice pa pn pc) ((Jm d kind).behind (Gp (Yi d kind))) e w'):=ZZ (by
   have aM:=i.o.1.below (aA.o.trans (Q.o.mono aA.o.size));rw[<-M.o.2,<-aU.o]
   exact aS.o I _ _ x t ((aB.o.below Y.o zL).own0) (Qh (Zmm ag.o) fun k hk=>Y.o.block k (zar ag.o k hk).2) (aM.each x M.o.1) (i.o.1.ibs x M.o.1) aM.ltI (ad.o.2.2 _ (by rw[<-i.o.2];exact zbd.2 ⟨x,M.o.1,rfl⟩)))
  generalize bB:(Jm d kind).first=gf at *
  go_wp2_with fail
  refine a0.o.mono ?_;rintro e C ⟨bg,bp,bu,bC,rfl,aa,ac,aW,a6,ab,aw,ax⟩;obtain⟨R,hR⟩:=zgy ((Jm d kind).behind (Gp (Yi d kind)));rw[<-hR] at al aa ac ab aw;rw[<-hR]
  have aG:∀ k,bg.ownBlock=some k->c.heap.size<=k∧k<t.heap.size:=fun k hk=>by
   rcases aW with e | e
   ·rw[e] at hk
    have b:=zar aB.o k hk;have:=Y.o.size;omega
   ·rw[e] at hk;cases hk
  have am:∀ k,bp.ownBlock=some k->c.heap.size<=k∧k<t.heap.size:=fun k hk=>by
   rcases a6 with e | e
   ·rw[e] at hk
    have b:=zar ag.o k hk;have:=Y.o.size;omega
   ·rw[e] at hk;cases hk
  have ay:=Zwe pd i.o.1 i.o.2 aO.o Q.o ax aa ac aG am ab aw;obtain⟨aY,aX,S⟩:=aa.shape;obtain⟨aJ,aN,H⟩:=Z8 ac;obtain⟨la,ln,lc,ta,tn,tc,aI,aQ⟩:=ab.shape
  dsimp only at aI aQ
  generalize ao:R.1.recs.length=aL at S;generalize aC:R.1.pcs.length=aV at H;clear ao aC aa ac ab aw aW a6;subst S H aI aQ;have a1:Hid (Below c.heap.size c C):=ZZ (Q.o.trans (ax.mono Q.o.size))
  have m:Hid (Bk 76 C a.heap.size (ZtQ pd (.slice v u z))):=ZZ (by
   have h0:Bk 76 c a.heap.size (ZtQ pd (.slice v u z)):=by rw[aO.o];exact zaf a _
   exact h0.keep (a1.o.block _ (by have:=a4.o;omega)))
  obtain⟨X,P⟩:=zgy (Zop C a.heap.size (.int .i64 R.1.first) (.slice aY aL aX) (.slice aJ aV aN) (.int .i64 R.2.idx) (.int .i64 R.2.st.kind) (.slice la ln lc) (.bool R.2.st.shut) (.int .i64 R.2.st.eng) (.slice ta tn tc));have bq:Hid (Ql (fun k=>k=a.heap.size) C X):=ZZ (by rw[P];exact ZkT _ _ _ _ _ _ _ _ _ _ _)
  rw[<-P] at ay;have an:Hid (g.heap.size<=a.heap.size):=ZZ i.o.1.old.size;have a7:Hid (Below g.heap.size g C):=ZZ (au.o.trans (a1.o.mono au.o.size));have af:Hid (Below g.heap.size g X):=ZZ (a7.o.trans (bq.o.below a7.o.size (fun k hk=>by rw[hk];exact an.o)))
  have aE:Hid (SD K X pd a.heap.size ⟨R.1,Yi d kind,R.2,0,0,false⟩ d N T):=ZZ (by
   have bx:=an.o;have bA:=a4.o;have bD:=Q.o.size
   have hM:∀ k,(k=a.heap.size∨(Value.slice aY aL aX).ownBlock=some k∨(Value.slice aJ aV aN).ownBlock=some k∨(Value.slice v u z).ownBlock=some k)->g.heap.size<=k:=fun k hk=>by
    rcases hk with hk | hk | hk | hk
    ·omega
    ·have:=aG k hk;omega
    ·have:=am k hk;omega
    ·exact i.o.1.far k hk
   have hI:∀ k,(I k∨(t.heap.size<=k∧k<C.heap.size))->g.heap.size<=k:=fun k hk=>by
    rcases hk with hk | hk
    ·exact i.o.1.lo k hk
    ·omega
   refine⟨F,_,_,_,HD.o.below af.o,ay,ai.o.1,fun k hk y=>?_,fun k hk y=>?_,fun k hk y=>?_,fun k hk y=>?_⟩
   ·have:=hM k hk;have:=ai.o.2 k y;omega
   ·have:=hI k hk;have:=ai.o.2 k y;omega
   ·have:=hM k y;have:=HD.o.ltF k hk;omega
   ·have:=hI k y;have:=HD.o.ltF k hk;omega)
  have bo:Hid (ZpE ⟨R.1,Yi d kind,R.2,0,0,false⟩):=ZZ (by
   have b:=a9.o.num;rw[al.o] at b
   exact⟨b.f0,b.f1,(Qo (by decide) (by decide):I64 0),(Qo (by decide) (by decide):I64 0)⟩)
  have ar:=ZZ (aE.o.next bo.o);have bt:Hid ((⟨R.1,Yi d kind,R.2,0,0,false⟩:Sto).next=R.1.next):=ZZ rfl;rw[bt.o] at ar;obtain⟨z1,y1⟩:=m.o.cell 1 rfl;obtain⟨z2,y2⟩:=m.o.cell 2 rfl;obtain⟨z3,y3⟩:=m.o.cell 3 rfl;obtain⟨z5,y5⟩:=m.o.cell 5 rfl;obtain⟨z6,y6⟩:=m.o.cell 6 rfl;obtain⟨z7,y7⟩:=m.o.cell 7 rfl;obtain⟨z8,y8⟩:=m.o.cell 8 rfl;obtain⟨z9,y9⟩:=m.o.cell 9 rfl;obtain⟨bl,bm⟩:=m.o.cell 10 rfl;unfold snV snC
  dsimp only
  unfold Zop at P;clear ay aG am ax a0 aS hR i aK M aU aB ag Y az
  go_upto_region 7 with fail
  rw[<-P];clear P z1 y1 z2 y2 z3 y3 z5 y5 z6 y6 z7 y7 z8 y8 z9 y9 bl bm
  go_wp2_with fail
  refine ar.o.mono ?_;rintro e W7 ⟨rfl,E⟩;have bz:=ZZ E;obtain⟨⟨-,bk,-,-⟩,fz⟩:=(aE.o.below E).cells;have bw:=fz 11
  have bj:Hid (SD K (W7.setCell ⟨a.heap.size,11,none⟩ (.int .i64 R.1.next)) pd a.heap.size G d N T):=ZZ (by
   have b:=((aE.o.below E).synced (fun k hk=>by have:=ai.o.2 k hk;have:=af.o.size;have:=E.size;omega)).1
   have e:G=Ye ⟨R.1,Yi d kind,R.2,0,0,false⟩:=by rw[al.o];rfl
   rw[e]
   exact b)
  have bf:Hid (Below g.heap.size g (W7.setCell ⟨a.heap.size,11,none⟩ (.int .i64 R.1.next))):=ZZ ((af.o.trans (E.mono af.o.size)).setCell (p:=⟨a.heap.size,11,none⟩) an.o _);generalize R.1.next=nx at *
  dsimp only at bk
  clear E fz ar;go_wp2;go_ret2;exact .inr ⟨br.o,_,rfl,bj.o,bf.o⟩
end Go.Proofs.YtnahjngbneicaaaGreatDoor
