import Derived.Test.YtnahjngbneicaaaGreatDoorStoreX
namespace Go.Proofs.YtnahjngbneicaaaGreatDoor
open _root_.Go.Proofs.Tryz
set_option maxRecDepth 100000
open Go.RowKit
variable {a w:World} {I:Nat->Prop} {bv:Value} {bs:List (Q0 × Value × Value)} {bases:List Q0} {pd:Nat}
def Zqr (b:List Q0):Sto:=⟨ZaE,b,Yb,0,0,false⟩
def ZtQ (pd:Nat) (bv:Value):Array Value:=
 #[ptr pd,.int .i64 0,.slice none 0 0,.slice none 0 0,bv,.int .i64 0,.int .i64 0,.slice none 0 0,.bool false,.int .i64 0,.slice none 0 0,.int .i64 0,.int .i64 0,.bool false]
theorem Zwd {j:Value} {e:List Int} (pd:Nat) (h:Gt w I j e bv bs a) (i:bs.map Prod.fst=bases):
 Jq (fun k=>k=a.heap.size∨bv.ownBlock=some k) I (a.alloc (.cells (ZtQ pd bv) 76)) a.heap.size pd ⟨.slice none 0 0,.slice none 0 0,bv,.slice none 0 0,.slice none 0 0,bs⟩ (Zqr bases):=by
 have f:=Jw a (.cells (ZtQ pd bv) 76);have l:(a.alloc (.cells (ZtQ pd bv) 76)).heap.size=a.heap.size+1:=by simp
 have b:=h.below f;refine⟨heap_alloc_new a _,Xj.nil _ _,World.ownsRow_nil _ _ _ _,b.row,i,⟨RdI.nil _,RdE.nil _,(Qo (by decide) (by decide):I64 0),(Qo (by decide) (by decide):I64 0),(Qo (by decide) (by decide):I64 0)⟩,b.each,.inl rfl,(fun g c=>by cases c),(fun g c=>by cases c),fun g c=>.inr c,⟨.inl rfl,.inl rfl⟩,b.ibs,fun k hk=>?_,b.ltI,fun k hk d=>?_⟩
 ·rcases hk with hk | hk
  ·omega
  ·exact b.ltB k hk
 ·rcases hk with hk | hk
  ·have:=h.ltI k d
   omega
  ·exact h.dis k d hk
def Zop (W:World) (p:Nat) (f rv pv x0 x1 x2 x3 x4 x5:Value):World:=
 ((((((((W.setCell ⟨p,1,none⟩ f).setCell ⟨p,2,none⟩ rv).setCell ⟨p,3,none⟩ pv).setCell ⟨p,5,none⟩ x0).setCell ⟨p,6,none⟩ x1).setCell ⟨p,7,none⟩ x2).setCell ⟨p,8,none⟩ x3).setCell ⟨p,9,none⟩ x4).setCell ⟨p,10,none⟩ x5
theorem ZkT (W:World) (p:Nat) (f rv pv b e c d g i:Value):Ql (fun k=>k=p) W (Zop W p f rv pv b e c d g i):=by
 have a:p<W.heap.size->(fun k=>k=p) p:=fun _=>rfl
 exact(((((((((Ql.refl (fun k=>k=p) W).setCell 1 a f).setCell 2 a rv).setCell 3 a pv).setCell 5 a b).setCell 6 a e).setCell 7 a c).setCell 8 a d).setCell 9 a g).setCell 10 a i
theorem Ztv {W:World} {p:Nat} (h:Bk 76 W p (ZtQ pd bv)) (f rv pv a d b c e g:Value):Bk 76 (Zop W p f rv pv a d b c e g) p #[ptr pd,f,rv,pv,bv,a,d,b,c,e,g,.int .i64 0,.int .i64 0,.bool false]:=by
 have i:=((((((((h.set 1 f).set 2 rv).set 3 pv).set 5 a).set 6 d).set 7 b).set 8 c).set 9 e).set 10 g;simp only [ZtQ,List.setIfInBounds_toArray,List.set_cons_zero,List.set_cons_succ] at i;unfold Zop;exact i
theorem Zwe {c d b:World} {J:Value} {C:List Int} {rv pv e f:Value} {r:Lgb × Q0} (pd:Nat) (h:Gt w I J C bv bs a) (K:bs.map Prod.fst=bases) (t:c=a.alloc (.cells (ZtQ pd bv) 76))
 (u:Below c.heap.size c d) (z:Below d.heap.size d b) (D:Xj b 0 rv r.1.recs) (O:b.ownsRow 0 108 3 pv r.1.pcs.length (Q6 r.1.pcs)) (j:∀ k,rv.ownBlock=some k->c.heap.size<=k∧k<d.heap.size) (l:∀ k,pv.ownBlock=some k->c.heap.size<=k∧k<d.heap.size)
 (E:SnR b (r.2,e,f)) (v:Zmp (fun k=>I k∨(d.heap.size<=k∧k<b.heap.size)) (r.2,e,f)):
 Jq (fun k=>k=a.heap.size∨rv.ownBlock=some k∨pv.ownBlock=some k∨bv.ownBlock=some k) (fun k=>I k∨(d.heap.size<=k∧k<b.heap.size)) (Zop b a.heap.size (.int .i64 r.1.first) rv pv (.int .i64 r.2.idx) (.int .i64 r.2.st.kind) e (.bool r.2.st.shut) (.int .i64 r.2.st.eng) f) a.heap.size pd ⟨rv,pv,bv,e,f,bs⟩ ⟨r.1,bases,r.2,0,0,false⟩:=by
 have B:Below a.heap.size a c:=by rw[t];exact Jw _ _
 have R:c.heap.size=a.heap.size+1:=by rw[t];simp
 have P:=u.size;have S:=z.size;have A:Below c.heap.size c b:=u.trans (z.mono u.size);have M:Below a.heap.size a b:=B.trans (A.mono B.size);have q:=h.below M
 have F:Bk 76 b a.heap.size (ZtQ pd bv):=by
  have H:Bk 76 c a.heap.size (ZtQ pd bv):=by rw[t];exact heap_alloc_new a _
  exact H.keep (A.block _ (by omega))
 have p:=ZkT b a.heap.size (.int .i64 r.1.first) rv pv (.int .i64 r.2.idx) (.int .i64 r.2.st.kind) e (.bool r.2.st.shut) (.int .i64 r.2.st.eng) f
 have y:Bk 76 (Zop b a.heap.size (.int .i64 r.1.first) rv pv (.int .i64 r.2.idx) (.int .i64 r.2.st.kind) e (.bool r.2.st.shut) (.int .i64 r.2.st.eng) f) a.heap.size (stC pd ⟨rv,pv,bv,e,f,bs⟩ ⟨r.1,bases,r.2,0,0,false⟩):=
  Ztv F _ _ _ _ _ _ _ _ _
 obtain⟨n,L⟩:∃ n,n=Zop b a.heap.size (.int .i64 r.1.first) rv pv (.int .i64 r.2.idx) (.int .i64 r.2.st.kind) e (.bool r.2.st.shut) (.int .i64 r.2.st.eng) f:=⟨_,rfl⟩;rw[<-L] at p y ⊢;have Q:=p.size;have i:∀ k,k<b.heap.size->k≠a.heap.size->n.heap[k]?=b.heap[k]?:=fun k N G=>p.block k N G
 have g:∀ k,(I k∨(d.heap.size<=k∧k<b.heap.size))->k<b.heap.size∧k≠a.heap.size:=fun k hk'=>by
  rcases hk' with hk' | hk'
  ·have:=h.ltI k hk'
   omega
  ·omega
 refine⟨y,Qh D fun k hk'=>i k (by have:=j k hk';omega) (by have:=j k hk';omega),Qh O fun k hk'=>i k (by have:=l k hk';omega) (by have:=l k hk';omega),Qh q.row fun k hk'=>i k (q.ltB k hk') (by have:=h.ltB k hk';omega),K,?_,?_,.inl rfl,fun k hk'=>.inr (.inl hk'),fun k hk'=>.inr (.inr (.inl hk')),fun k hk'=>.inr (.inr (.inr hk')),v,fun x m=>(h.ibs x m).mono (fun k hk'=>.inl hk'),fun k hk'=>?_,fun k hk'=>?_,fun k hk' hi'=>?_⟩
 ·exact E.keep v fun k hk'=>i k (g k hk').1 (g k hk').2
 ·exact fun x m=>(q.each x m).keep (h.ibs x m) fun k hk'=>i k (g k (.inl hk')).1 (g k (.inl hk')).2
 ·rcases hk' with hk' | hk' | hk' | hk'
  ·omega
  ·have:=j k hk';omega
  ·have:=l k hk';omega
  ·have:=h.ltB k hk';omega
 ·have:=(g k hk').1
  omega
 ·rcases hk' with hk' | hk' | hk' | hk'
  ·exact(g k hi').2 hk'
  ·have:=j k hk'
   rcases hi' with hi' | hi'
   ·have:=h.ltI k hi';omega
   ·omega
  ·have:=l k hk'
   rcases hi' with hi' | hi'
   ·have:=h.ltI k hi';omega
   ·omega
  ·rcases hi' with hi' | hi'
   ·exact h.dis k hi' hk'
   ·have:=h.ltB k hk';omega
theorem Zmm {B n s:Nat} {t:TypeId} {v:Value} {xs:List Value} (h:w.ownsRow B t s v n xs):w.ownsRow 0 t s v n xs:=ZaS h fun _ _=>Nat.zero_le _
def Zwf (K:Nat->Prop) (w:World) (pd:Nat) (d:Dk) (kind:Int) (N T:Nat) (e:Ending) (w':World):Prop:=
 (ZfB d kind≠0∧e=.returned (.tuple #[.pointer none,.int .i64 (ZfB d kind)])∧w'=w)∨
 (ZfB d kind=0∧∃ p,e=.returned (.tuple #[ptr p,.int .i64 0])∧SD K w' pd p (Zew d kind) d N T∧Below w.heap.size w w')
theorem Zqs (d:Dk) (kind:Int):(kind<0∨6<=kind)∧ZfB d kind=1∨(0<=kind∧kind<6∧d.power=0∧ZfB d kind=11)∨(0<=kind∧kind<6∧d.power≠0∧ZfB d kind=0):=by
 unfold ZfB;by_cases h:kind<0∨6<=kind
 ·exact .inl ⟨h,if_pos h⟩
 ·rw[if_neg h]
  by_cases a:d.power=0
  ·exact .inr (.inl ⟨by omega,by omega,a,if_pos a⟩)
  ·exact .inr (.inr ⟨by omega,by omega,a,if_neg a⟩)
set_option maxHeartbeats 4000000 in
theorem Zrj {K F:Nat->Prop} {d:Dk} {N T Fn Bn:Nat} (kind:Int) (w:World) (h:Dsk F w pd d N T) (a4:∀ k,F k->¬ K k) (hK:∀ k,K k->k<w.heap.size) (hN:N<=1000000) (hT:T<=1000000000) (q:SzD d Fn Bn) (bq:Fn<=900) (bk:Bn<=90000) (bb:Fn*Bn<=9000000):
 Calls prog 13 #[ptr pd,.int .i64 kind] w fun e w'=>Zwf K w pd d kind N T e w':=by
 rcases Zqs d kind with ⟨hk,j⟩ | ⟨P,X,J,j⟩ | ⟨P,X,J,j⟩
 ·have HE:Hid (Zwf K w pd d kind N T (.returned (.tuple #[.pointer none,.int .i64 1])) w):=ZZ (.inl ⟨by rw[j];decide,by rw[j],rfl⟩)
  clear h q j;by_cases b:kind<0
  ·have aE:decide (kind<0)=true:=decide_eq_true b
   go_enter func13,ntmps13
   go_wp2;go_ret2;exact HE.o
  ·have aE:decide (kind<0)=false:=decide_eq_false b
   have a0:decide (kind ≥ 6)=true:=decide_eq_true (by omega)
   go_enter func13,ntmps13
   go_wp2;go_ret2;exact HE.o
 ·have HE:Hid (Zwf K w pd d kind N T (.returned (.tuple #[.pointer none,.int .i64 11])) w):=ZZ (.inl ⟨by rw[j];decide,by rw[j],rfl⟩)
  have ad:Hid (Calls prog 33 #[ptr pd] w fun e w'=>e=.returned (.bool false)∧w'=w):=ZZ (by
   obtain⟨L,b,-⟩:=h;have:=ZmR w b;rw[show(d.power != 0)=false by rw[J];rfl] at this
   exact this)
  have aE:decide (kind<0)=false:=decide_eq_false (by omega)
  have a0:decide (kind ≥ 6)=false:=decide_eq_false (by omega)
  clear h q j J
  go_enter func13,ntmps13
  go_wp2_with fail
  refine ad.o.mono ?_;rintro e a ⟨rfl,rfl⟩;go_wp2;go_ret2;exact HE.o
 ·have ad:Hid (Calls prog 33 #[ptr pd] w fun e w'=>e=.returned (.bool true)∧w'=w):=ZZ (by
   obtain⟨L,b,-⟩:=h;have:=ZmR w b;rw[show(d.power != 0)=true by rw[bne_iff_ne];exact J] at this
   exact this)
  have aE:decide (kind<0)=false:=decide_eq_false (by omega)
  have a0:decide (kind ≥ 6)=false:=decide_eq_false (by omega)
  have O:OkD d:=by obtain⟨L,-,h2,-⟩:=h;exact h2
  have aw:∀ n,(Zp d n).1.length<=90000:=fun n=>Nat.le_trans (q.read n) bk
  have a7:=ZZ (Zmk kind w h hN hT aw);have a9:=ZZ (fun W (hb:Below w.heap.size w W)=>Zqc kind W (h.below hb) hN hT P X aw (fun n f l hs=>ZvT hs) (ZxM kind q O bq bb))
  have aY:=ZZ (fun(I:Nat->Prop) rv pv x W hr hp y hi hlt hs=>Ztu I (Jm d kind) rv pv x W hr hp y hi hlt (Zrh d kind) hs (by
   have b:=(ZkP kind q O).1
   omega) (by have:=(ZkP kind q O).2;omega))
  have ab:Hid ((Yi d kind).length≠0∧(Yi d kind).length<=1000∧∀ x ∈ Yi d kind,SnS x):=ZZ ⟨fun e=>(ZfY (d:=d) P X).2 (List.eq_nil_of_length_eq_zero e),by have:=Zts (kind:=kind) q O;omega,fun x y=>((ZfY (d:=d) P X).1 x y).1.snS⟩
  have aX:=ZZ (Zfe (d:=d) P X);have HD:=ZZ h;have aa:=ZZ (And.intro a4 hK);have bp:=ZZ j;obtain⟨M,af⟩:∃ M,M=Zew d kind:=⟨_,rfl⟩;have aj:Hid (M=⟨((Jm d kind).behind (Gp (Yi d kind))).1,Yi d kind,((Jm d kind).behind (Gp (Yi d kind))).2,((Jm d kind).behind (Gp (Yi d kind))).1.next,0,false⟩):=ZZ af;rw[<-af] at aX;unfold Zwf;rw[<-af];clear h q J O aw j a4 hK af
  go_enter func13,ntmps13
  go_wp2_with fail
  refine ad.o.mono ?_;rintro e i ⟨rfl,rfl⟩
  go_wp2_with fail
  refine a7.o.mono ?_;rintro e a ⟨bv,bs,I,v0,l0,rfl,ax,D⟩;have g:=ZZ (And.intro D ax);obtain⟨u,B,a6⟩:=Z8 D.row;generalize bg:bs.length=z at a6;clear bg;subst a6;obtain⟨c,A⟩:∃ c,c=a.alloc (.cells (ZtQ pd (.slice u z B)) 76):=⟨_,rfl⟩;have aM:=ZZ A;have aH:Hid (Below a.heap.size a c):=ZZ (by rw[A];exact Jw _ _)
  have aF:Hid (Below i.heap.size i c):=ZZ (D.old.trans (aH.o.mono D.old.size));have aZ:Hid (Jq (fun k=>k=a.heap.size∨(Value.slice u z B).ownBlock=some k) I c a.heap.size pd ⟨.slice none 0 0,.slice none 0 0,.slice u z B,.slice none 0 0,.slice none 0 0,bs⟩ (Zqr (Yi d kind))):=ZZ (by rw[A];exact Zwd pd D ax)
  have a2:c.heap.size=a.heap.size+1:=by rw[A];simp
  have aN:=ZZ a2;unfold ZtQ at A;clear D ax a7 ad a2
  go_upto_region 6 with fail
  rw[<-A];clear A
  go_wp2_with fail
  refine(a9.o c aF.o).mono ?_;rintro e W3 ⟨rv,pv,rfl,az,aC,aD⟩;have ao:=ZZ aD;have aB:=ZZ az;have ai:=ZZ aC;have a8:=ZZ (ZqT W3 (aZ.o.below aD) (by exact ab.o.1) (by have:=ab.o.2.1;exact Nat.le_trans this (by decide)))
  obtain⟨ra,rc,V⟩:=az.shape;obtain⟨pa,pc,U⟩:=Z8 aC;generalize ak:(Jm d kind).recs.length=rn at V;generalize an:(Jm d kind).pcs.length=pn at U;clear ak an az aC aD a9;subst V U;obtain⟨x,y⟩:∃ x,x=Zck bs:=⟨_,rfl⟩
  have S:Hid (x ∈ bs∧x.1=Gp (Yi d kind)):=ZZ (by
   rw[y];refine⟨Ziv ?_,?_⟩
   ·intro e
    have:=ab.o.1;rw[<-g.o.2,List.length_map] at this;exact this e
   ·have:=Zky (L:=⟨.slice none 0 0,.slice none 0 0,.slice u z B,.slice none 0 0,.slice none 0 0,bs⟩) (s:=Zqr (Yi d kind)) g.o.2
    exact this)
  have aA:Hid (Calls prog 37 #[ptr a.heap.size] W3 fun e w'=>e=.returned (snV x)∧Below W3.heap.size W3 w'):=ZZ (by rw[y];exact a8.o)
  clear a8 y;generalize aL:snV x=sx at aA;have a1:=ZZ aL;clear aL
  go_wp2_with fail
  refine aA.o.mono ?_;rintro e t ⟨rfl,av⟩;have G:=ZZ av;have Q:Hid (Below c.heap.size c t):=ZZ (ao.o.trans (av.mono ao.o.size));clear av aA
  have aV:Hid (Calls prog 36 #[.agg #[.int .i64 (Jm d kind).first,.slice ra rn rc,.slice pa pn pc],sx] t fun e w'=>Zcq I t (.slice ra rn rc) (.slice pa pn pc) ((Jm d kind).behind (Gp (Yi d kind))) e w'):=ZZ (by
   have a5:=g.o.1.below (aH.o.trans (Q.o.mono aH.o.size));rw[<-S.o.2,<-a1.o]
   exact aY.o I _ _ x t ((aB.o.below G.o zL).own0) (Qh (Zmm ai.o) fun k hk=>G.o.block k (World.ownsRow.lt ai.o k hk).2) (a5.each x S.o.1) (g.o.1.ibs x S.o.1) a5.ltI (ab.o.2.2 _ (by rw[<-g.o.2];exact List.mem_map.2 ⟨x,S.o.1,rfl⟩)))
  generalize bw:(Jm d kind).first=gf at *
  go_wp2_with fail
  refine aV.o.mono ?_;rintro e E ⟨br,bf,bu,bz,rfl,ag,Z,aS,aT,ae,ap,al⟩;obtain⟨R,hR⟩:∃ R,R=(Jm d kind).behind (Gp (Yi d kind)):=⟨_,rfl⟩;rw[<-hR] at aj ag Z ae ap;rw[<-hR]
  have ay:∀ k,br.ownBlock=some k->c.heap.size<=k∧k<t.heap.size:=fun k hk=>by
   rcases aS with e | e
   ·rw[e] at hk
    have b:=World.ownsRow.lt aB.o k hk;have:=G.o.size;omega
   ·rw[e] at hk;cases hk
  have am:∀ k,bf.ownBlock=some k->c.heap.size<=k∧k<t.heap.size:=fun k hk=>by
   rcases aT with e | e
   ·rw[e] at hk
    have b:=World.ownsRow.lt ai.o k hk;have:=G.o.size;omega
   ·rw[e] at hk;cases hk
  have aq:=Zwe pd g.o.1 g.o.2 aM.o Q.o al ag Z ay am ae ap;obtain⟨aU,aI,V⟩:=ag.shape;obtain⟨aP,aJ,U⟩:=Z8 Z;obtain⟨la,ln,lc,ta,tn,tc,aQ,aR⟩:=ae.shape
  dsimp only at aQ aR
  generalize ak:R.1.recs.length=aK at V;generalize an:R.1.pcs.length=aO at U;clear ak an ag Z ae ap aS aT;subst V U aQ aR;have aW:Hid (Below c.heap.size c E):=ZZ (Q.o.trans (al.mono Q.o.size))
  have m:Hid (Bk 76 E a.heap.size (ZtQ pd (.slice u z B))):=ZZ (by
   have h0:Bk 76 c a.heap.size (ZtQ pd (.slice u z B)):=by rw[aM.o];exact heap_alloc_new a _
   exact h0.keep (aW.o.block _ (by have:=aN.o;omega)))
  obtain⟨Y,H⟩:∃ Y,Y=Zop E a.heap.size (.int .i64 R.1.first) (.slice aU aK aI) (.slice aP aO aJ) (.int .i64 R.2.idx) (.int .i64 R.2.st.kind) (.slice la ln lc) (.bool R.2.st.shut) (.int .i64 R.2.st.eng) (.slice ta tn tc):=⟨_,rfl⟩;have bd:Hid (Ql (fun k=>k=a.heap.size) E Y):=ZZ (by rw[H];exact ZkT _ _ _ _ _ _ _ _ _ _ _)
  rw[<-H] at aq;have ar:Hid (i.heap.size<=a.heap.size):=ZZ g.o.1.old.size;have a3:Hid (Below i.heap.size i E):=ZZ (aF.o.trans (aW.o.mono aF.o.size));have ac:Hid (Below i.heap.size i Y):=ZZ (a3.o.trans (bd.o.below a3.o.size (fun k hk=>by rw[hk];exact ar.o)))
  have aG:Hid (SD K Y pd a.heap.size ⟨R.1,Yi d kind,R.2,0,0,false⟩ d N T):=ZZ (by
   have bx:=ar.o;have bB:=aN.o;have bA:=Q.o.size
   have hM:∀ k,(k=a.heap.size∨(Value.slice aU aK aI).ownBlock=some k∨(Value.slice aP aO aJ).ownBlock=some k∨(Value.slice u z B).ownBlock=some k)->i.heap.size<=k:=fun k hk=>by
    rcases hk with hk | hk | hk | hk
    ·omega
    ·have:=ay k hk;omega
    ·have:=am k hk;omega
    ·exact g.o.1.far k hk
   have hI:∀ k,(I k∨(t.heap.size<=k∧k<E.heap.size))->i.heap.size<=k:=fun k hk=>by
    rcases hk with hk | hk
    ·exact g.o.1.lo k hk
    ·omega
   refine⟨F,_,_,_,HD.o.below ac.o,aq,aa.o.1,fun k hk v=>?_,fun k hk v=>?_,fun k hk v=>?_,fun k hk v=>?_⟩
   ·have:=hM k hk;have:=aa.o.2 k v;omega
   ·have:=hI k hk;have:=aa.o.2 k v;omega
   ·have:=hM k v;have:=HD.o.ltF k hk;omega
   ·have:=hI k v;have:=HD.o.ltF k hk;omega)
  have bt:Hid (ZpE ⟨R.1,Yi d kind,R.2,0,0,false⟩):=ZZ (by
   have b:=aX.o.num;rw[aj.o] at b
   exact⟨b.f0,b.f1,(Qo (by decide) (by decide):I64 0),(Qo (by decide) (by decide):I64 0)⟩)
  have au:=ZZ (aG.o.next bt.o);have bj:Hid ((⟨R.1,Yi d kind,R.2,0,0,false⟩:Sto).next=R.1.next):=ZZ rfl;rw[bj.o] at au;obtain⟨z1,y1⟩:=m.o.cell 1 rfl;obtain⟨z2,y2⟩:=m.o.cell 2 rfl;obtain⟨z3,y3⟩:=m.o.cell 3 rfl;obtain⟨z5,y5⟩:=m.o.cell 5 rfl;obtain⟨z6,y6⟩:=m.o.cell 6 rfl;obtain⟨z7,y7⟩:=m.o.cell 7 rfl;obtain⟨z8,y8⟩:=m.o.cell 8 rfl;obtain⟨z9,y9⟩:=m.o.cell 9 rfl;obtain⟨bo,be⟩:=m.o.cell 10 rfl;unfold snV snC
  dsimp only
  unfold Zop at H;clear aq ay am al aV aY hR g aZ S a1 aB ai G ao
  go_upto_region 7 with fail
  rw[<-H];clear H z1 y1 z2 y2 z3 y3 z5 y5 z6 y6 z7 y7 z8 y8 z9 y9 bo be
  go_wp2_with fail
  refine au.o.mono ?_;rintro e W7 ⟨rfl,C⟩;have bC:=ZZ C;obtain⟨⟨-,bl,-,-⟩,fz⟩:=(aG.o.below C).cells;have bD:=fz 11
  have bm:Hid (SD K (W7.setCell ⟨a.heap.size,11,none⟩ (.int .i64 R.1.next)) pd a.heap.size M d N T):=ZZ (by
   have b:=((aG.o.below C).synced (fun k hk=>by have:=aa.o.2 k hk;have:=ac.o.size;have:=C.size;omega)).1
   have e:M=Ye ⟨R.1,Yi d kind,R.2,0,0,false⟩:=by rw[aj.o];rfl
   rw[e]
   exact b)
  have bi:Hid (Below i.heap.size i (W7.setCell ⟨a.heap.size,11,none⟩ (.int .i64 R.1.next))):=ZZ ((ac.o.trans (C.mono ac.o.size)).setCell (p:=⟨a.heap.size,11,none⟩) ar.o _);generalize R.1.next=nx at *
  dsimp only at bl
  clear C fz au;go_wp2;go_ret2;exact .inr ⟨bp.o,_,rfl,bm.o,bi.o⟩
end Go.Proofs.YtnahjngbneicaaaGreatDoor
