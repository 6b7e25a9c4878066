import Derived.Test.YtnahjngbneicaaaGreatDoorPack14
namespace Go.Proofs.YtnahjngbneicaaaGreatDoor
set_option linter.unusedSimpArgs false
open _root_.Go.Proofs.Tryz
set_option maxRecDepth 100000
open Go.RowKit
variable {w:World} {p pd:Nat} {s:Sto}
theorem Zkm {d:Array Oper} {o:Oper} {a:Act} {K:Act->World->Prop} {Q:Exit->Act->World->Prop} {E:Prop}
 (p:o.guard=none) (s x:Operand) (q:o.op=Op.call { callee:=Callee.builtin Builtin.append,args:=#[s,x],argTypes:=#[74,74] })
 (v:Value) (l:List (Q0 × Value × Value)) (e:a.eval s=v) (c:Q0 × Value × Value) (b:World) (i:w=b.alloc (.cells (snC c) 41)) (h:b.ownsRow 0 41 6 v l.length (Xw l)) (g:SlX c) (u:a.eval x=.slice (some ⟨b.heap.size,0,none⟩) 1 1) (f:l.length<=10000000)
 (j:∀ v' w',w'.ownsRow 0 41 6 v' (l++[c]).length (Xw (l++[c]))->(b.alloc (.cells (snC c) 41)).grownBy w' v.ownBlock->(v'.ownBlock=v.ownBlock∨v'.ownBlock=some (b.heap.size+1))->K (a.put o.dst v') w'):
 if Region.wanted o (yielded d a.tmps)=true then Oper.wp prog o a w K Q else E:=by
 have n:Region.wanted o (yielded d a.tmps)=true:=by simp[Region.wanted,p]
 rw[zab n];subst i;obtain⟨v',w',k,y,t,m⟩:=Zfg b o.type v l h c g f;unfold Oper.wp execOp;simp only [q,resolve,invoke,builtin,zbt,zbv,zbe,zch,zei,zf7,e,u,k];exact j v' w' y t m
theorem Jr.addBase {M I:Nat->Prop} {W:World} {L:ZdD} {b:Value} (h:Jr M I w p pd L s) (z:W.ownsRow 0 41 6 b (L.bs++[L.nx s]).length (Xw (L.bs++[L.nx s]))) (a:(w.alloc (.cells (snC (L.nx s)) 41)).grownBy W L.bv.ownBlock) (hv:b.ownBlock=L.bv.ownBlock∨b.ownBlock=some (w.heap.size+1)):
 Jr (fun k=>M k∨b.ownBlock=some k) I (W.setCell ⟨p,4,none⟩ b) p pd { L with bv:=b,bs:=L.bs++[L.nx s] } { s with bases:=s.bases++[s.now] }∧Ql M w (W.setCell ⟨p,4,none⟩ b)∧(W.cell? ⟨p,4,none⟩=some L.bv∧W.frozen? ⟨p,4,none⟩=false)∧∀ k,b.ownBlock=some k->M k∨w.heap.size<=k:=by
 have C:∀ g,L.bv.ownBlock=some g->g≠p:=fun g a e=>by
  obtain⟨cs,c⟩:=X5 h.bases a;rw[e] at c;exact c.ne h.head (by decide) rfl
 have B:(w.alloc (.cells (snC (L.nx s)) 41)).heap.size=w.heap.size+1:=by simp
 have A:∀ k,k<w.heap.size->L.bv.ownBlock≠some k->W.heap[k]?=w.heap[k]?:=fun k hk d=>by
  rw[a.block k (by rw[B];omega) (fun e=>d e.symm)]
  exact zav _ _ _ (by omega)
 have P:w.heap.size+1<=W.heap.size:=by have:=a.size;rw[B] at this;exact this
 have q:∀ k,b.ownBlock=some k->M k∨w.heap.size<=k:=fun k hk=>by
  rcases hv with hv | hv
  ·exact .inl (h.mb k (by rw[<-hv];exact hk))
  ·rw[hv] at hk
   have:=zaq hk;exact .inr (by omega)
 have G:W.heap[p]?=w.heap[p]?:=A p (h.ltM p h.mh) (fun e=>C p e rfl)
 have i:=h.head.keep G;have y:∀ k,k≠p->(W.setCell ⟨p,4,none⟩ b).heap[k]?=W.heap[k]?:=fun k hk=>zat _ _ _ _ hk
 have D:(W.setCell ⟨p,4,none⟩ b).heap.size=W.heap.size:=ZqX _ _ _ _;have m:∀ k,k<w.heap.size->k≠p->L.bv.ownBlock≠some k->(W.setCell ⟨p,4,none⟩ b).heap[k]?=w.heap[k]?:=fun k h1 O H=>by rw[y k O,A k h1 H]
 have f:∀ k,I k->(W.setCell ⟨p,4,none⟩ b).heap[k]?=w.heap[k]?:=fun k hk=>m k (h.ltI k hk) (fun e=>h.dis p h.mh (by rw[<-e];exact hk)) (fun e=>h.dis k (h.mb k e) hk)
 have J:∀ k,b.ownBlock=some k->k≠p:=fun k hk e=>by
  rcases hv with hv | hv
  ·exact C k (by rw[<-hv];exact hk) e
  ·rw[hv] at hk
   have:=zaq hk;have:=h.ltM p h.mh;omega
 have l:∀ {t:TypeId} {v:Value} {n sz:Nat} {xs:List Value},w.ownsRow 0 t sz v n xs->t≠76->t≠41->(W.setCell ⟨p,4,none⟩ b).ownsRow 0 t sz v n xs:=fun u F N=>Qh u fun g a=>by
  obtain⟨cs,c⟩:=X5 u a;refine m g c.lt (c.ne h.head F) (fun e=>?_)
  obtain⟨Q,E⟩:=X5 h.bases e;exact c.ne E N rfl
 refine⟨⟨i.set 4 b,l h.recs (by decide) (by decide),l h.pcs (by decide) (by decide),Qh z fun g a=>y g (J g a),?_,h.now.keep h.inow f,fun x hx=>?_,.inl h.mh,fun g a=>.inl (h.mr g a),fun g a=>.inl (h.mp g a),fun g a=>.inr a,h.inow,fun x hx=>?_,fun k hk=>?_,fun k hk=>?_,fun k hk j=>?_⟩,?_,⟨(i.cell 4 rfl).1,(i.cell 4 rfl).2⟩,q⟩
 ·rw[zc1,h.bsEq];rfl
 ·rcases za2.1 hx with hx | hx
  ·exact(h.base x hx).keep (h.ibase x hx) f
  ·rw[zaw.1 hx];exact h.now.keep h.inow f
 ·rcases za2.1 hx with hx | hx
  ·exact h.ibase x hx
  ·rw[zaw.1 hx];exact h.inow
 ·rw[D]
  rcases hk with hk | hk
  ·have:=h.ltM k hk;omega
  ·exact(zaz z k hk).2
 ·rw[D]
  have:=h.ltI k hk;omega
 ·rcases hk with hk | hk
  ·exact h.dis k hk j
  ·rcases q k hk with h1 | h1
   ·exact h.dis k h1 j
   ·have:=h.ltI k j
    omega
 ·have K:Ql M w (w.alloc (.cells (snC (L.nx s)) 41)):=Ql.ofBelow (Z3 _ _)
  have c:Ql M (w.alloc (.cells (snC (L.nx s)) 41)) W:=⟨a.os,a.tape,a.output,a.size,fun k hk d=>a.block k hk (fun e=>d (h.mb k e.symm))⟩
  exact((K.trans c (fun _ _ h=>h)).trans (((Ql.refl M W).setCell 4 (fun _=>h.mh) b)) (fun _ _ h=>h))
set_option maxHeartbeats 4000000 in
theorem Zdc {K:Nat->Prop} {d:Dk} {N T:Nat} (w:World) (h:SD K w pd p s d N T) (D:∀ k,K k->k<w.heap.size) (C:ZpV s) (aq:s.bases.length<=1000000) (hN:N<=900000) (hT:T<=90000000):
 Calls prog 24 #[ptr p] w fun e w'=>J3 K w pd p (Qs (s,d)) (N+28) (T+560000) e w':=by
 obtain⟨l,q⟩:=zg7 ((w.alloc (.cells #[ptr p] 28)).alloc (.cells #[.slice none 0 0] 53));have S:l.heap.size=w.heap.size+2:=by rw[q];simp
 obtain⟨i,j⟩:=zg7 (l.alloc (.cells (ZAz p w.heap.size (w.heap.size+1)) 153));have aC:i.heap.size=w.heap.size+3:=by rw[j];simp[S]
 have ac:Hid (Below w.heap.size w i):=ZZ (by rw[j,q];exact(((zac _ _).alloc zL _).alloc (by simp) _).alloc (by simp;omega) _)
 have P:Hid (Bk 28 i w.heap.size #[ptr p]):=ZZ (by
  rw[j,q]
  exact(zav _ _ _ (by simp;omega)).trans ((zav _ _ _ (by simp)).trans (zak w _)))
 have ak:Hid (Bk 53 i (w.heap.size+1) #[.slice none 0 0]):=ZZ (by
  rw[j,q]
  exact(zav _ _ _ (by simp)).trans (Zeb w _ _))
 have HY:Hid (Bk 153 i (w.heap.size+2) (ZAz p w.heap.size (w.heap.size+1))):=ZZ (by
  rw[j,<-S]
  exact zak l _)
 obtain⟨f,G⟩:=zg7 (J1 (s,d));have aa:=ZcU (s,d);rw[<-G] at aa
 have au:Hid (Calls prog 62 #[.slice (some ⟨l.heap.size,0,none⟩) 7 7] i fun e w'=>e=.returned (.int .i64 f.2)∧SD K w' pd p f.1.1 f.1.2 (N+28) (T+560000)∧Ql (fun k=>¬ K k) w w'∧Bk 28 w' w.heap.size #[ptr p]):=ZZ (by
  have hm:=Zyh (K0:=fun k=>(K k∨k=w.heap.size)∨k=w.heap.size+2) (K2:=fun k=>K k∨(w.heap.size<=k∧k<i.heap.size)) (R:=w.heap.size) (Rb:=w.heap.size+1) (Y:=w.heap.size+2) i (.inr rfl) (fun k hk=>by
   rcases hk with (hk | hk) | hk
   ·exact .inl hk
   ·exact .inr (by omega)
   ·exact .inr (by omega)) (fun hk=>by
   rcases hk with (hk | hk) | hk
   ·have:=D _ hk;omega
   ·omega
   ·omega) HY.o (fun k hk=>by
   rcases hk with hk | hk
   ·have:=D k hk;omega
   ·exact hk.2) (h.fresh ac.o) ⟨_,ak.o,.inr (by omega),.inr (by omega),P.o,fun hh=>absurd hh (by decide)⟩ C hN hT
  rw[<-G] at hm;rw[S];refine hm.mono ?_;rintro e w' ⟨rfl,Kd,k1,k2,V,X,-⟩
  refine⟨rfl,X.less (fun k hk=>k1 k (.inl hk)),(Ql.ofBelow ac.o).trans (V.mono (fun k hk C=>hk (.inl (.inl C)))) (fun _ _ h=>h),P.o.keep (V.block _ P.o.lt (fun hh=>hh (.inl (.inr rfl))))⟩)
 have m:Hid (Qs (s,d)=if f.2=0 then(({ f.1.1 with bases:=f.1.1.bases++[f.1.1.now] },f.1.2),0) else f):=ZZ (by rw[G];rfl)
 have aj:Hid (f.1.1.bases.length<=1000000):=ZZ (by rw[aa.2.1];exact aq)
 obtain⟨O,al⟩:=zg7 (Qs (s,d));rw[<-al] at m ⊢;have ax:=ZZ D;simp only [ZAz,Zfi,Stp.val] at j;have ar:=ZZ j;clear h C aq G aa al D HY ak P ac
 go_enter func24,ntmps24
 go_upto_region 2 with fail
 rw[<-q]
 have r0:l.cell? ⟨w.heap.size,0,none⟩=some (ptr p):=by
  have hb:Bk 28 l w.heap.size #[ptr p]:=by
   rw[q];exact(zav _ _ _ (by simp)).trans (zak w _)
  exact(hb.cell 0 rfl).1
 clear q j S aC
 go_wp2_with fail
 rw[<-ar.o];refine au.o.mono ?_;rintro e b ⟨rfl,an,am,ai⟩;have t:=ZZ an;have x:=ZZ am;have u:=ZZ ai;obtain⟨r2,-⟩:=ai.cell 0 rfl;clear ar au an am ai r0;obtain⟨⟨s',d'⟩,c⟩:=f
 dsimp only at t m aj
 by_cases Q:c=0
 case neg=>
  have E:Hid (J3 K w pd p O (N+28) (T+560000) (.returned (.int .i64 c)) b):=ZZ (by
   rw[m.o,zaa Q]
   exact⟨rfl,t.o,x.o⟩)
  have aE:(c != 0)=true:=by rw[zbq];exact Q
  clear Q m t x;go_wp2;go_ret;exact E.o
 subst Q;rw[zab rfl] at m;obtain⟨F,M,I,L,g1,g,g3,g4,g5,g6,g7⟩:=t.o;have HL:=ZZ g;obtain⟨-,-,-,-,c4,⟨c5,c6,c7,c8,c9,az⟩,-⟩:=g.cs;obtain⟨ba,Z,J⟩:=Je g.bases;obtain⟨v,B,lc,y,z,A,ae,af⟩:=g.now.shape;have ad:L.nl=.slice v B lc:=ae;have ag:L.nt=.slice y z A:=af;have av:Hid (snC (L.nx s')=#[.int .i64 s'.now.idx,.int .i64 s'.now.st.kind,.slice v B lc,.bool s'.now.st.shut,.int .i64 s'.now.st.eng,.slice y z A]):=ZZ (by unfold snC ZdD.nx;rw[ad,ag])
 have aD:Hid (SlX (L.nx s')):=ZZ ⟨v,B,lc,y,z,A,ae,af⟩
 have aw:Hid (L.bs.length<=10000000):=ZZ (by
  have U:=aj.o;rw[<-g.bsEq,zda] at U
  omega)
 have E:Hid (∀ v' W,W.ownsRow 0 41 6 v' (L.bs++[L.nx s']).length (Xw (L.bs++[L.nx s']))->(b.drew.alloc (.cells (snC (L.nx s')) 41)).grownBy W L.bv.ownBlock->(v'.ownBlock=L.bv.ownBlock∨v'.ownBlock=some (b.drew.heap.size+1))->
  J3 K w pd p O (N+28) (T+560000) (.returned (.int .i64 0)) (W.setCell ⟨p,4,none⟩ v')∧W.cell? ⟨p,4,none⟩=some L.bv∧W.frozen? ⟨p,4,none⟩=false∧W.cell? ⟨w.heap.size,0,none⟩=some (ptr p)):=ZZ (fun v' W hr hg hv=>by
  have H:Below b.heap.size b b.drew:=(zac _ _).drew;obtain⟨k1,k2,⟨V,X⟩,k5⟩:=(g.below H).addBase hr hg hv;have aA:∀ k,K k->k<b.drew.heap.size:=fun k hk=>zay (ax.o k hk) (zau x.o.size H.size)
  obtain⟨m1,m2⟩:=SD.own aA (g1.below H) g3 g4 g5 g6 g7 k2 k1 (fun k hk=>by
   rcases hk with hk | hk
   ·exact .inl hk
   ·exact k5 k hk) (fun k hk=>.inl hk)
  refine⟨?_,V,X,?_⟩
  ·rw[m.o]
   exact⟨rfl,m1,(x.o.trans (Ql.ofBelow (F:=fun _=>False) H) (fun _ _ h=>h.elim)).trans m2 (fun _ _ h=>h)⟩
  ·have h2:L.bv.ownBlock≠some w.heap.size:=fun e=>by
    obtain⟨cs,hb⟩:=X5 g.bases e;exact hb.ne u.o (by decide) rfl
   have h3:W.heap[w.heap.size]?=b.heap[w.heap.size]?:=by
    rw[hg.block _ (by simp;have:=u.o.lt;omega) (fun e=>h2 e.symm)]
    exact zav b _ _ u.o.lt
   exact((u.o.keep h3).cell 0 rfl).1)
 rw[J] at c4;rw[ad] at c7;rw[ag] at az
 have ay:Hid (b.drew.ownsRow 0 41 6 (.slice ba L.bs.length Z) L.bs.length (Xw L.bs)):=ZZ (by
  have U:=(g.below (zac _ b).drew).bases;rw[J] at U
  exact U)
 rw[J] at E;generalize s'.now.idx=n0 at *;generalize s'.now.st.kind=n1 at *;generalize s'.now.st.shut=n2 at *;generalize s'.now.st.eng=n3 at *;have q4:(b.alloc (.cells #[.int .i64 n0,.int .i64 n1,.slice v B lc,.bool n2,.int .i64 n3,.slice y z A] 41)).cell? ⟨p,4,none⟩=some (.slice ba L.bs.length Z):=(zb4 (a:=⟨p,4,none⟩) (zav b _ p (g.ltM p g.mh))).trans c4;have q0:(b.alloc (.cells #[.int .i64 n0,.int .i64 n1,.slice v B lc,.bool n2,.int .i64 n3,.slice y z A] 41)).cell? ⟨w.heap.size,0,none⟩=some (ptr p):=(zb4 (a:=⟨w.heap.size,0,none⟩) (zav b _ _ u.o.lt)).trans r2;clear g1 g g3 g4 g5 g6 g7 ae af ad ag J m t x HL
 go_upto_region 9 with fail
 go_region_law(refine Zkm (by rfl) _ _ (by rfl) (.slice ba L.bs.length Z) L.bs (by rfl) (L.nx s') b.drew (by rw[av.o];rfl) ay.o aD.o (by rfl) aw.o ?_;intro v9 W9 ab ao ap;obtain⟨hA,t1,t2,t3⟩:=E.o v9 W9 ab ao ap;have aB:=ZZ hA;obtain⟨z1,z3,z2,hz⟩:∃ a n c,v9=Value.slice a n c:=(by obtain⟨a,c,h⟩:=Je ab;exact⟨_,_,_,h⟩);subst hz;clear hA ab ao ap)
 all_goals
  go_wp2;go_ret;exact aB.o
end Go.Proofs.YtnahjngbneicaaaGreatDoor
