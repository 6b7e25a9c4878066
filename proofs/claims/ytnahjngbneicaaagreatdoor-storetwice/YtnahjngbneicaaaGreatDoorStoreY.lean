import Derived.Test.YtnahjngbneicaaaGreatDoorStoreX
namespace Go.Proofs.YtnahjngbneicaaaGreatDoor
open _root_.Go.Proofs.Tryz
set_option maxRecDepth 100000
open Go.RowKit
def ZsN (b:List ZaW):Sto:=⟨ZeI,b,Zbl,0,0,false⟩
def Zwb (pd:Nat) (bv:Value):Array Value:=
 #[ptr pd,.int .i64 0,.slice none 0 0,.slice none 0 0,bv,.int .i64 0,.int .i64 0,.slice none 0 0,.bool false,.int .i64 0,.slice none 0 0,.int .i64 0,.int .i64 0,.bool false]
theorem Zyr {w a:World} {I:Nat->Prop} {f:Value} {j:List Int} {bv:Value} {bs:List (ZaW × Value × Value)} {bases:List ZaW} (pd:Nat) (h:Zdb w I f j bv bs a) (i:bs.map Prod.fst=bases):
 ZeO (fun k=>k=a.heap.size∨bv.ownBlock=some k) I (a.alloc (.cells (Zwb pd bv) 76)) a.heap.size pd ⟨.slice none 0 0,.slice none 0 0,bv,.slice none 0 0,.slice none 0 0,bs⟩ (ZsN bases):=by
 have e:=ZcW a (.cells (Zwb pd bv) 76);have l:(a.alloc (.cells (Zwb pd bv) 76)).heap.size=a.heap.size+1:=by simp
 have b:=h.below e;refine⟨heap_alloc_new a _,Zbq.nil _ _,World.ownsRow_nil _ _ _ _,b.row,i,⟨RdI.nil _,RdE.nil _,(Zai (by decide) (by decide):I64 0),(Zai (by decide) (by decide):I64 0),(Zai (by decide) (by decide):I64 0)⟩,b.each,.inl rfl,(fun g c=>by cases c),(fun g c=>by cases c),fun g c=>.inr c,⟨.inl rfl,.inl rfl⟩,b.ibs,fun k hk=>?_,b.ltI,fun k hk d=>?_⟩
 ·rcases hk with hk | hk
  ·omega
  ·exact b.ltB k hk
 ·rcases hk with hk | hk
  ·have:=h.ltI k d
   omega
  ·exact h.dis k d hk
def ZqR (W:World) (p:Nat) (f rv pv x0 x1 x2 x3 x4 x5:Value):World:=
 ((((((((W.setCell ⟨p,1,none⟩ f).setCell ⟨p,2,none⟩ rv).setCell ⟨p,3,none⟩ pv).setCell ⟨p,5,none⟩ x0).setCell ⟨p,6,none⟩ x1).setCell ⟨p,7,none⟩ x2).setCell ⟨p,8,none⟩ x3).setCell ⟨p,9,none⟩ x4).setCell ⟨p,10,none⟩ x5
theorem ZnE (W:World) (p:Nat) (f rv pv c g h e b d:Value):Zap (fun k=>k=p) W (ZqR W p f rv pv c g h e b d):=by
 have a:p<W.heap.size->(fun k=>k=p) p:=fun _=>rfl
 exact(((((((((Zap.refl (fun k=>k=p) W).setCell 1 a f).setCell 2 a rv).setCell 3 a pv).setCell 5 a c).setCell 6 a g).setCell 7 a h).setCell 8 a e).setCell 9 a b).setCell 10 a d
theorem ZvQ {W:World} {p pd:Nat} {bv:Value} (h:Bk 76 W p (Zwb pd bv)) (f rv pv b e g d a c:Value):Bk 76 (ZqR W p f rv pv b e g d a c) p #[ptr pd,f,rv,pv,bv,b,e,g,d,a,c,.int .i64 0,.int .i64 0,.bool false]:=by
 have i:=((((((((h.set 1 f).set 2 rv).set 3 pv).set 5 b).set 6 e).set 7 g).set 8 d).set 9 a).set 10 c;simp only [Zwb,List.setIfInBounds_toArray,List.set_cons_zero,List.set_cons_succ] at i;unfold ZqR;exact i
theorem Zys {w a c e b:World} {I:Nat->Prop} {H:Value} {M:List Int} {bv rv pv f d:Value} {bs:List (ZaW × Value × Value)} {bases:List ZaW} {r:Lgb × ZaW} (pd:Nat) (h:Zdb w I H M bv bs a) (L:bs.map Prod.fst=bases) (p:c=a.alloc (.cells (Zwb pd bv) 76))
 (q:Below c.heap.size c e) (v:Below e.heap.size e b) (N:Zbq b 0 rv r.1.recs) (K:b.ownsRow 0 108 3 pv r.1.pcs.length (Zau r.1.pcs)) (j:∀ k,rv.ownBlock=some k->c.heap.size<=k∧k<e.heap.size) (m:∀ k,pv.ownBlock=some k->c.heap.size<=k∧k<e.heap.size)
 (G:SnR b (r.2,f,d)) (A:ZoR (fun k=>I k∨(e.heap.size<=k∧k<b.heap.size)) (r.2,f,d)):
 ZeO (fun k=>k=a.heap.size∨rv.ownBlock=some k∨pv.ownBlock=some k∨bv.ownBlock=some k) (fun k=>I k∨(e.heap.size<=k∧k<b.heap.size)) (ZqR b a.heap.size (.int .i64 r.1.first) rv pv (.int .i64 r.2.idx) (.int .i64 r.2.st.kind) f (.bool r.2.st.shut) (.int .i64 r.2.st.eng) d) a.heap.size pd ⟨rv,pv,bv,f,d,bs⟩ ⟨r.1,bases,r.2,0,0,false⟩:=by
 have y:Below a.heap.size a c:=by rw[p];exact ZcW _ _
 have P:c.heap.size=a.heap.size+1:=by rw[p];simp
 have S:=q.size;have R:=v.size;have B:Below c.heap.size c b:=q.trans (v.mono q.size);have D:Below a.heap.size a b:=y.trans (B.mono y.size);have u:=h.below D
 have F:Bk 76 b a.heap.size (Zwb pd bv):=by
  have E:Bk 76 c a.heap.size (Zwb pd bv):=by rw[p];exact heap_alloc_new a _
  exact E.keep (B.block _ (by omega))
 have n:=ZnE b a.heap.size (.int .i64 r.1.first) rv pv (.int .i64 r.2.idx) (.int .i64 r.2.st.kind) f (.bool r.2.st.shut) (.int .i64 r.2.st.eng) d
 have z:Bk 76 (ZqR b a.heap.size (.int .i64 r.1.first) rv pv (.int .i64 r.2.idx) (.int .i64 r.2.st.kind) f (.bool r.2.st.shut) (.int .i64 r.2.st.eng) d) a.heap.size (stC pd ⟨rv,pv,bv,f,d,bs⟩ ⟨r.1,bases,r.2,0,0,false⟩):=
  ZvQ F _ _ _ _ _ _ _ _ _
 obtain⟨t,O⟩:∃ t,t=ZqR b a.heap.size (.int .i64 r.1.first) rv pv (.int .i64 r.2.idx) (.int .i64 r.2.st.kind) f (.bool r.2.st.shut) (.int .i64 r.2.st.eng) d:=⟨_,rfl⟩;rw[<-O] at n z ⊢;have Q:=n.size;have i:∀ k,k<b.heap.size->k≠a.heap.size->t.heap[k]?=b.heap[k]?:=fun k C J=>n.block k C J
 have g:∀ k,(I k∨(e.heap.size<=k∧k<b.heap.size))->k<b.heap.size∧k≠a.heap.size:=fun k hk'=>by
  rcases hk' with hk' | hk'
  ·have:=h.ltI k hk'
   omega
  ·omega
 refine⟨z,Zae N fun k hk'=>i k (by have:=j k hk';omega) (by have:=j k hk';omega),Zae K fun k hk'=>i k (by have:=m k hk';omega) (by have:=m k hk';omega),Zae u.row fun k hk'=>i k (u.ltB k hk') (by have:=h.ltB k hk';omega),L,?_,?_,.inl rfl,fun k hk'=>.inr (.inl hk'),fun k hk'=>.inr (.inr (.inl hk')),fun k hk'=>.inr (.inr (.inr hk')),A,fun x l=>(h.ibs x l).mono (fun k hk'=>.inl hk'),fun k hk'=>?_,fun k hk'=>?_,fun k hk' hi'=>?_⟩
 ·exact G.keep A fun k hk'=>i k (g k hk').1 (g k hk').2
 ·exact fun x l=>(u.each x l).keep (h.ibs x l) fun k hk'=>i k (g k (.inl hk')).1 (g k (.inl hk')).2
 ·rcases hk' with hk' | hk' | hk' | hk'
  ·omega
  ·have:=j k hk';omega
  ·have:=m k hk';omega
  ·have:=h.ltB k hk';omega
 ·have:=(g k hk').1
  omega
 ·rcases hk' with hk' | hk' | hk' | hk'
  ·exact(g k hi').2 hk'
  ·have:=j k hk'
   rcases hi' with hi' | hi'
   ·have:=h.ltI k hi';omega
   ·omega
  ·have:=m k hk'
   rcases hi' with hi' | hi'
   ·have:=h.ltI k hi';omega
   ·omega
  ·rcases hi' with hi' | hi'
   ·exact h.dis k hi' hk'
   ·have:=h.ltB k hk';omega
theorem ZoP {w:World} {B n s:Nat} {t:TypeId} {v:Value} {xs:List Value} (h:w.ownsRow B t s v n xs):w.ownsRow 0 t s v n xs:=ZdT h fun _ _=>Nat.zero_le _
def Zyt (K:Nat->Prop) (w:World) (pd:Nat) (d:Dk) (kind:Int) (N T:Nat) (e:Ending) (w':World):Prop:=
 (ZiA d kind≠0∧e=.returned (.tuple #[.pointer none,.int .i64 (ZiA d kind)])∧w'=w)∨
 (ZiA d kind=0∧∃ p,e=.returned (.tuple #[ptr p,.int .i64 0])∧SD K w' pd p (ZjD d kind) d N T∧Below w.heap.size w w')
theorem ZsO (d:Dk) (kind:Int):(kind<0∨6<=kind)∧ZiA d kind=1∨(0<=kind∧kind<6∧d.power=0∧ZiA d kind=11)∨(0<=kind∧kind<6∧d.power≠0∧ZiA d kind=0):=by
 unfold ZiA;by_cases h:kind<0∨6<=kind
 ·exact .inl ⟨h,if_pos h⟩
 ·rw[if_neg h]
  by_cases a:d.power=0
  ·exact .inr (.inl ⟨by omega,by omega,a,if_pos a⟩)
  ·exact .inr (.inr ⟨by omega,by omega,a,if_neg a⟩)
set_option maxHeartbeats 4000000 in
theorem ZtJ {K F:Nat->Prop} {pd:Nat} {d:Dk} {N T Fn Bn:Nat} (kind:Int) (w:World) (h:Dsk F w pd d N T) (aR:∀ k,F k->¬ K k) (hK:∀ k,K k->k<w.heap.size) (hN:N<=1000000) (hT:T<=1000000000) (q:SzD d Fn Bn) (bg:Fn<=900) (bf:Bn<=90000) (bq:Fn*Bn<=9000000):
 Calls prog 13 #[ptr pd,.int .i64 kind] w fun e w'=>Zyt K w pd d kind N T e w':=by
 rcases ZsO d kind with ⟨hk,j⟩ | ⟨O,M,Y,j⟩ | ⟨O,M,Y,j⟩
 ·have HE:Hid (Zyt K w pd d kind N T (.returned (.tuple #[.pointer none,.int .i64 1])) w):=ZZ (.inl ⟨by rw[j];decide,by rw[j],rfl⟩)
  clear h q j;by_cases b:kind<0
  ·have aj:decide (kind<0)=true:=decide_eq_true b
   go_enter func13,ntmps13
   go_wp2;go_ret2;exact HE.o
  ·have aj:decide (kind<0)=false:=decide_eq_false b
   have aH:decide (kind ≥ 6)=true:=decide_eq_true (by omega)
   go_enter func13,ntmps13
   go_wp2;go_ret2;exact HE.o
 ·have HE:Hid (Zyt K w pd d kind N T (.returned (.tuple #[.pointer none,.int .i64 11])) w):=ZZ (.inl ⟨by rw[j];decide,by rw[j],rfl⟩)
  have ab:Hid (Calls prog 33 #[ptr pd] w fun e w'=>e=.returned (.bool false)∧w'=w):=ZZ (by
   obtain⟨L,b,-⟩:=h;have:=Zpq w b;rw[show(d.power != 0)=false by rw[Y];rfl] at this
   exact this)
  have aj:decide (kind<0)=false:=decide_eq_false (by omega)
  have aH:decide (kind ≥ 6)=false:=decide_eq_false (by omega)
  clear h q j Y
  go_enter func13,ntmps13
  go_wp2_with fail
  refine ab.o.mono ?_;rintro e a ⟨rfl,rfl⟩;go_wp2;go_ret2;exact HE.o
 ·have ab:Hid (Calls prog 33 #[ptr pd] w fun e w'=>e=.returned (.bool true)∧w'=w):=ZZ (by
   obtain⟨L,b,-⟩:=h;have:=Zpq w b;rw[show(d.power != 0)=true by rw[bne_iff_ne];exact Y] at this
   exact this)
  have aj:decide (kind<0)=false:=decide_eq_false (by omega)
  have aH:decide (kind ≥ 6)=false:=decide_eq_false (by omega)
  have X:OkD d:=by obtain⟨L,-,h2,-⟩:=h;exact h2
  have ap:∀ n,(Zdc d n).1.length<=90000:=fun n=>Nat.le_trans (q.read n) bf
  have aZ:=ZZ (ZoN kind w h hN hT ap);have a3:=ZZ (fun W (hb:Below w.heap.size w W)=>Zsx kind W (h.below hb) hN hT O M ap (fun n f l hs=>Zyg hs) (ZzW kind q X bg bq))
  have a6:=ZZ (fun(I:Nat->Prop) rv pv x W hr hp t hi hlt hs=>ZvP I (Zji d kind) rv pv x W hr hp t hi hlt (ZtH d kind) hs (by
   have b:=(Zny kind q X).1
   omega) (by have:=(Zny kind q X).2;omega))
  have ae:Hid ((Zbr d kind).length≠0∧(Zbr d kind).length<=1000∧∀ x ∈ Zbr d kind,SnS x):=ZZ ⟨fun e=>(ZiV (d:=d) O M).2 (List.eq_nil_of_length_eq_zero e),by have:=ZvN (kind:=kind) q X;omega,fun x t=>((ZiV (d:=d) O M).1 x t).1.snS⟩
  have aX:=ZZ (Zij (d:=d) O M);have HD:=ZZ h;have ac:=ZZ (And.intro aR hK);have bm:=ZZ j;obtain⟨V,ag⟩:∃ V,V=ZjD d kind:=⟨_,rfl⟩;have an:Hid (V=⟨((Zji d kind).behind (Zef (Zbr d kind))).1,Zbr d kind,((Zji d kind).behind (Zef (Zbr d kind))).2,((Zji d kind).behind (Zef (Zbr d kind))).1.next,0,false⟩):=ZZ ag;rw[<-ag] at aX;unfold Zyt;rw[<-ag];clear h q Y X ap j aR hK ag
  go_enter func13,ntmps13
  go_wp2_with fail
  refine ab.o.mono ?_;rintro e g ⟨rfl,rfl⟩
  go_wp2_with fail
  refine aZ.o.mono ?_;rintro e a ⟨bv,bs,I,v0,l0,rfl,av,E⟩;have i:=ZZ (And.intro E av);obtain⟨v,u,a2⟩:=ZbW E.row;generalize bh:bs.length=y at a2;clear bh;subst a2;obtain⟨c,A⟩:∃ c,c=a.alloc (.cells (Zwb pd (.slice v y u)) 76):=⟨_,rfl⟩;have a0:=ZZ A;have aA:Hid (Below a.heap.size a c):=ZZ (by rw[A];exact ZcW _ _)
  have am:Hid (Below g.heap.size g c):=ZZ (E.old.trans (aA.o.mono E.old.size));have a8:Hid (ZeO (fun k=>k=a.heap.size∨(Value.slice v y u).ownBlock=some k) I c a.heap.size pd ⟨.slice none 0 0,.slice none 0 0,.slice v y u,.slice none 0 0,.slice none 0 0,bs⟩ (ZsN (Zbr d kind))):=ZZ (by rw[A];exact Zyr pd E av)
  have a4:c.heap.size=a.heap.size+1:=by rw[A];simp
  have aT:=ZZ a4;unfold Zwb at A;clear E av aZ ab a4
  go_upto_region 6 with fail
  rw[<-A];clear A
  go_wp2_with fail
  refine(a3.o c am.o).mono ?_;rintro e W3 ⟨rv,pv,rfl,ak,ax,aB⟩;have aG:=ZZ aB;have aq:=ZZ ak;have aa:=ZZ ax;have aY:=ZZ (Ztt W3 (a8.o.below aB) (by exact ae.o.1) (by have:=ae.o.2.1;exact Nat.le_trans this (by decide)))
  obtain⟨ra,rc,G⟩:=ak.shape;obtain⟨pa,pc,Q⟩:=ZbW ax;generalize aC:(Zji d kind).recs.length=rn at G;generalize aD:(Zji d kind).pcs.length=pn at Q;clear aC aD ak ax aB a3;subst G Q;obtain⟨x,t⟩:∃ x,x=Zfy bs:=⟨_,rfl⟩
  have U:Hid (x ∈ bs∧x.1=Zef (Zbr d kind)):=ZZ (by
   rw[t];refine⟨Zlm ?_,?_⟩
   ·intro e
    have:=ae.o.1;rw[<-i.o.2,List.length_map] at this;exact this e
   ·have:=Znh (L:=⟨.slice none 0 0,.slice none 0 0,.slice v y u,.slice none 0 0,.slice none 0 0,bs⟩) (s:=ZsN (Zbr d kind)) i.o.2
    exact this)
  have aE:Hid (Calls prog 37 #[ptr a.heap.size] W3 fun e w'=>e=.returned (snV x)∧Below W3.heap.size W3 w'):=ZZ (by rw[t];exact aY.o)
  clear aY t;generalize aU:snV x=sx at aE;have aM:=ZZ aU;clear aU
  go_wp2_with fail
  refine aE.o.mono ?_;rintro e B ⟨rfl,aw⟩;have J:=ZZ aw;have S:Hid (Below c.heap.size c B):=ZZ (aG.o.trans (aw.mono aG.o.size));clear aw aE
  have aV:Hid (Calls prog 36 #[.agg #[.int .i64 (Zji d kind).first,.slice ra rn rc,.slice pa pn pc],sx] B fun e w'=>ZfE I B (.slice ra rn rc) (.slice pa pn pc) ((Zji d kind).behind (Zef (Zbr d kind))) e w'):=ZZ (by
   have aQ:=i.o.1.below (aA.o.trans (S.o.mono aA.o.size));rw[<-U.o.2,<-aM.o]
   exact a6.o I _ _ x B ((aq.o.below J.o zL).own0) (Zae (ZoP aa.o) fun k hk=>J.o.block k (World.ownsRow.lt aa.o k hk).2) (aQ.each x U.o.1) (i.o.1.ibs x U.o.1) aQ.ltI (ae.o.2.2 _ (by rw[<-i.o.2];exact List.mem_map.2 ⟨x,U.o.1,rfl⟩)))
  generalize br:(Zji d kind).first=gf at *
  go_wp2_with fail
  refine aV.o.mono ?_;rintro e D ⟨bo,bk,bu,bt,rfl,af,Z,aI,aJ,ad,ay,az⟩;obtain⟨R,hR⟩:∃ R,R=(Zji d kind).behind (Zef (Zbr d kind)):=⟨_,rfl⟩;rw[<-hR] at an af Z ad ay;rw[<-hR]
  have ai:∀ k,bo.ownBlock=some k->c.heap.size<=k∧k<B.heap.size:=fun k hk=>by
   rcases aI with e | e
   ·rw[e] at hk
    have b:=World.ownsRow.lt aq.o k hk;have:=J.o.size;omega
   ·rw[e] at hk;cases hk
  have ao:∀ k,bk.ownBlock=some k->c.heap.size<=k∧k<B.heap.size:=fun k hk=>by
   rcases aJ with e | e
   ·rw[e] at hk
    have b:=World.ownsRow.lt aa.o k hk;have:=J.o.size;omega
   ·rw[e] at hk;cases hk
  have aF:=Zys pd i.o.1 i.o.2 a0.o S.o az af Z ai ao ad ay;obtain⟨aK,a7,G⟩:=af.shape;obtain⟨aP,a5,Q⟩:=ZbW Z;obtain⟨la,ln,lc,ta,tn,tc,aO,aN⟩:=ad.shape
  dsimp only at aO aN
  generalize aC:R.1.recs.length=aS at G;generalize aD:R.1.pcs.length=aL at Q;clear aC aD af Z ad ay aI aJ;subst G Q aO aN;have aW:Hid (Below c.heap.size c D):=ZZ (S.o.trans (az.mono S.o.size))
  have m:Hid (Bk 76 D a.heap.size (Zwb pd (.slice v y u))):=ZZ (by
   have h0:Bk 76 c a.heap.size (Zwb pd (.slice v y u)):=by rw[a0.o];exact heap_alloc_new a _
   exact h0.keep (aW.o.block _ (by have:=aT.o;omega)))
  obtain⟨H,P⟩:∃ H,H=ZqR D a.heap.size (.int .i64 R.1.first) (.slice aK aS a7) (.slice aP aL a5) (.int .i64 R.2.idx) (.int .i64 R.2.st.kind) (.slice la ln lc) (.bool R.2.st.shut) (.int .i64 R.2.st.eng) (.slice ta tn tc):=⟨_,rfl⟩;have bd:Hid (Zap (fun k=>k=a.heap.size) D H):=ZZ (by rw[P];exact ZnE _ _ _ _ _ _ _ _ _ _ _)
  rw[<-P] at aF;have al:Hid (g.heap.size<=a.heap.size):=ZZ i.o.1.old.size;have a1:Hid (Below g.heap.size g D):=ZZ (am.o.trans (aW.o.mono am.o.size));have ah:Hid (Below g.heap.size g H):=ZZ (a1.o.trans (bd.o.below a1.o.size (fun k hk=>by rw[hk];exact al.o)))
  have au:Hid (SD K H pd a.heap.size ⟨R.1,Zbr d kind,R.2,0,0,false⟩ d N T):=ZZ (by
   have bw:=al.o;have bA:=aT.o;have bz:=S.o.size
   have hM:∀ k,(k=a.heap.size∨(Value.slice aK aS a7).ownBlock=some k∨(Value.slice aP aL a5).ownBlock=some k∨(Value.slice v y u).ownBlock=some k)->g.heap.size<=k:=fun k hk=>by
    rcases hk with hk | hk | hk | hk
    ·omega
    ·have:=ai k hk;omega
    ·have:=ao k hk;omega
    ·exact i.o.1.far k hk
   have hI:∀ k,(I k∨(B.heap.size<=k∧k<D.heap.size))->g.heap.size<=k:=fun k hk=>by
    rcases hk with hk | hk
    ·exact i.o.1.lo k hk
    ·omega
   refine⟨F,_,_,_,HD.o.below ah.o,aF,ac.o.1,fun k hk z=>?_,fun k hk z=>?_,fun k hk z=>?_,fun k hk z=>?_⟩
   ·have:=hM k hk;have:=ac.o.2 k z;omega
   ·have:=hI k hk;have:=ac.o.2 k z;omega
   ·have:=hM k z;have:=HD.o.ltF k hk;omega
   ·have:=hI k z;have:=HD.o.ltF k hk;omega)
  have bi:Hid (ZrZ ⟨R.1,Zbr d kind,R.2,0,0,false⟩):=ZZ (by
   have b:=aX.o.num;rw[an.o] at b
   exact⟨b.f0,b.f1,(Zai (by decide) (by decide):I64 0),(Zai (by decide) (by decide):I64 0)⟩)
  have ar:=ZZ (au.o.next bi.o);have a9:Hid ((⟨R.1,Zbr d kind,R.2,0,0,false⟩:Sto).next=R.1.next):=ZZ rfl;rw[a9.o] at ar;obtain⟨z1,y1⟩:=m.o.cell 1 rfl;obtain⟨z2,y2⟩:=m.o.cell 2 rfl;obtain⟨z3,y3⟩:=m.o.cell 3 rfl;obtain⟨z5,y5⟩:=m.o.cell 5 rfl;obtain⟨z6,y6⟩:=m.o.cell 6 rfl;obtain⟨z7,y7⟩:=m.o.cell 7 rfl;obtain⟨z8,y8⟩:=m.o.cell 8 rfl;obtain⟨z9,y9⟩:=m.o.cell 9 rfl;obtain⟨bj,bb⟩:=m.o.cell 10 rfl;unfold snV snC
  dsimp only
  unfold ZqR at P;clear aF ai ao az aV a6 hR i a8 U aM aq aa J aG
  go_upto_region 7 with fail
  rw[<-P];clear P z1 y1 z2 y2 z3 y3 z5 y5 z6 y6 z7 y7 z8 y8 z9 y9 bj bb
  go_wp2_with fail
  refine ar.o.mono ?_;rintro e W7 ⟨rfl,C⟩;have bB:=ZZ C;obtain⟨⟨-,bl,-,-⟩,fz⟩:=(au.o.below C).cells;have bx:=fz 11
  have be:Hid (SD K (W7.setCell ⟨a.heap.size,11,none⟩ (.int .i64 R.1.next)) pd a.heap.size V d N T):=ZZ (by
   have b:=((au.o.below C).synced (fun k hk=>by have:=ac.o.2 k hk;have:=ah.o.size;have:=C.size;omega)).1
   have e:V=ZeJ ⟨R.1,Zbr d kind,R.2,0,0,false⟩:=by rw[an.o];rfl
   rw[e]
   exact b)
  have bp:Hid (Below g.heap.size g (W7.setCell ⟨a.heap.size,11,none⟩ (.int .i64 R.1.next))):=ZZ ((ah.o.trans (C.mono ah.o.size)).setCell (p:=⟨a.heap.size,11,none⟩) al.o _);generalize R.1.next=nx at *
  dsimp only at bl
  clear C fz ar;go_wp2;go_ret2;exact .inr ⟨bm.o,_,rfl,be.o,bp.o⟩
end Go.Proofs.YtnahjngbneicaaaGreatDoor
