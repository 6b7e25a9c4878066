import Derived.Test.YtnahjngbneicaaaGreatDoorPack15
namespace Go.Proofs.YtnahjngbneicaaaGreatDoor
open _root_.Go.Proofs.Tryz
set_option maxRecDepth 100000
open Go.RowKit
variable {w:World} {p pd:Nat} {s:Sto}
theorem ZjZ {d:Array Oper} {o:Oper} {a:Act} {K:Act->World->Prop} {Q:Exit->Act->World->Prop} {E:Prop}
 (f:o.guard=none) (s x:Operand) (q:o.op=Op.call { callee:=Callee.builtin Builtin.append,args:=#[s,x],argTypes:=#[74,74] })
 (v:Value) (l:List (Q0 × Value × Value)) (p:a.eval s=v) (c:Q0 × Value × Value) (b:World) (y:w=b.alloc (.cells (snC c) 41)) (h:b.ownsRow 0 41 6 v l.length (Xv l)) (m:SlX c) (u:a.eval x=.slice (some ⟨b.heap.size,0,none⟩) 1 1) (g:l.length<=10000000)
 (t:∀ v' w',w'.ownsRow 0 41 6 v' (l++[c]).length (Xv (l++[c]))->(b.alloc (.cells (snC c) 41)).grownBy w' v.ownBlock->(v'.ownBlock=v.ownBlock∨v'.ownBlock=some (b.heap.size+1))->K (a.put o.dst v') w'):
 if Region.wanted o (yielded d a.tmps)=true then Oper.wp prog o a w K Q else E:=by
 have i:Region.wanted o (yielded d a.tmps)=true:=by simp[Region.wanted,f]
 rw[zab i];subst y;obtain⟨v',w',n,j,e,k⟩:=ZeX b o.type v l h c m g;unfold Oper.wp execOp;simp only [q,resolve,invoke,builtin,zbk,zbn,za7,zc8,zd9,zgo,p,u,n];exact t v' w' j e k
theorem Jq.addBase {M I:Nat->Prop} {W:World} {L:ZdU} {b:Value} (h:Jq M I w p pd L s) (B:W.ownsRow 0 41 6 b (L.bs++[L.nx s]).length (Xv (L.bs++[L.nx s]))) (a:(w.alloc (.cells (snC (L.nx s)) 41)).grownBy W L.bv.ownBlock) (hv:b.ownBlock=L.bv.ownBlock∨b.ownBlock=some (w.heap.size+1)):
 Jq (fun k=>M k∨b.ownBlock=some k) I (W.setCell ⟨p,4,none⟩ b) p pd { L with bv:=b,bs:=L.bs++[L.nx s] } { s with bases:=s.bases++[s.now] }∧Ql M w (W.setCell ⟨p,4,none⟩ b)∧(W.cell? ⟨p,4,none⟩=some L.bv∧W.frozen? ⟨p,4,none⟩=false)∧∀ k,b.ownBlock=some k->M k∨w.heap.size<=k:=by
 have C:∀ g,L.bv.ownBlock=some g->g≠p:=fun g a e=>by
  obtain⟨cs,c⟩:=X0 h.bases a;rw[e] at c;exact c.ne h.head (by decide) rfl
 have D:(w.alloc (.cells (snC (L.nx s)) 41)).heap.size=w.heap.size+1:=by simp
 have z:∀ k,k<w.heap.size->L.bv.ownBlock≠some k->W.heap[k]?=w.heap[k]?:=fun k hk j=>by
  rw[a.block k (by rw[D];omega) (fun e=>j e.symm)]
  exact zao _ _ _ (by omega)
 have P:w.heap.size+1<=W.heap.size:=by have:=a.size;rw[D] at this;exact this
 have l:∀ k,b.ownBlock=some k->M k∨w.heap.size<=k:=fun k hk=>by
  rcases hv with hv | hv
  ·exact .inl (h.mb k (by rw[<-hv];exact hk))
  ·rw[hv] at hk
   have:=zak hk;exact .inr (by omega)
 have K:W.heap[p]?=w.heap[p]?:=z p (h.ltM p h.mh) (fun e=>C p e rfl)
 have f:=h.head.keep K;have m:∀ k,k≠p->(W.setCell ⟨p,4,none⟩ b).heap[k]?=W.heap[k]?:=fun k hk=>zal _ _ _ _ hk
 have A:(W.setCell ⟨p,4,none⟩ b).heap.size=W.heap.size:=ZqD _ _ _ _;have u:∀ k,k<w.heap.size->k≠p->L.bv.ownBlock≠some k->(W.setCell ⟨p,4,none⟩ b).heap[k]?=w.heap[k]?:=fun k h1 J E=>by rw[m k J,z k h1 E]
 have d:∀ k,I k->(W.setCell ⟨p,4,none⟩ b).heap[k]?=w.heap[k]?:=fun k hk=>u k (h.ltI k hk) (fun e=>h.dis p h.mh (by rw[<-e];exact hk)) (fun e=>h.dis k (h.mb k e) hk)
 have O:∀ k,b.ownBlock=some k->k≠p:=fun k hk e=>by
  rcases hv with hv | hv
  ·exact C k (by rw[<-hv];exact hk) e
  ·rw[hv] at hk
   have:=zak hk;have:=h.ltM p h.mh;omega
 have q:∀ {t:TypeId} {v:Value} {n sz:Nat} {xs:List Value},w.ownsRow 0 t sz v n xs->t≠76->t≠41->(W.setCell ⟨p,4,none⟩ b).ownsRow 0 t sz v n xs:=fun y G F=>Qh y fun g a=>by
  obtain⟨cs,c⟩:=X0 y a;refine u g c.lt (c.ne h.head G) (fun e=>?_)
  obtain⟨Q,H⟩:=X0 h.bases e;exact c.ne H F rfl
 refine⟨⟨f.set 4 b,q h.recs (by decide) (by decide),q h.pcs (by decide) (by decide),Qh B fun g a=>m g (O g a),?_,h.now.keep h.inow d,fun x hx=>?_,.inl h.mh,fun g a=>.inl (h.mr g a),fun g a=>.inl (h.mp g a),fun g a=>.inr a,h.inow,fun x hx=>?_,fun k hk=>?_,fun k hk=>?_,fun k hk i=>?_⟩,?_,⟨(f.cell 4 rfl).1,(f.cell 4 rfl).2⟩,l⟩
 ·rw[zc0,h.bsEq];rfl
 ·rcases zaw.1 hx with hx | hx
  ·exact(h.base x hx).keep (h.ibase x hx) d
  ·rw[zaq.1 hx];exact h.now.keep h.inow d
 ·rcases zaw.1 hx with hx | hx
  ·exact h.ibase x hx
  ·rw[zaq.1 hx];exact h.inow
 ·rw[A]
  rcases hk with hk | hk
  ·have:=h.ltM k hk;omega
  ·exact(zar B k hk).2
 ·rw[A]
  have:=h.ltI k hk;omega
 ·rcases hk with hk | hk
  ·exact h.dis k hk i
  ·rcases l k hk with h1 | h1
   ·exact h.dis k h1 i
   ·have:=h.ltI k i
    omega
 ·have N:Ql M w (w.alloc (.cells (snC (L.nx s)) 41)):=Ql.ofBelow (Jw _ _)
  have c:Ql M (w.alloc (.cells (snC (L.nx s)) 41)) W:=⟨a.os,a.tape,a.output,a.size,fun k hk j=>a.block k hk (fun e=>j (h.mb k e.symm))⟩
  exact((N.trans c (fun _ _ h=>h)).trans (((Ql.refl M W).setCell 4 (fun _=>h.mh) b)) (fun _ _ h=>h))
set_option maxHeartbeats 4000000 in
theorem Zjl {K:Nat->Prop} {d:Dk} {N T:Nat} (w:World) (h:SD K w pd p s d N T) (D:∀ k,K k->k<w.heap.size) (S:ZpE s) (aq:s.bases.length<=1000000) (hN:N<=900000) (hT:T<=90000000):
 Calls prog 24 #[ptr p] w fun e w'=>Jz K w pd p (Xp (s,d)) (N+28) (T+560000) e w':=by
 obtain⟨j,m⟩:=zgy ((w.alloc (.cells #[ptr p] 28)).alloc (.cells #[.slice none 0 0] 53));have G:j.heap.size=w.heap.size+2:=by rw[m];simp
 obtain⟨i,l⟩:=zgy (j.alloc (.cells (ZzT p w.heap.size (w.heap.size+1)) 153));have ay:i.heap.size=w.heap.size+3:=by rw[l];simp[G]
 have af:Hid (Below w.heap.size w i):=ZZ (by rw[l,m];exact(((zac _ _).alloc zL _).alloc (by simp) _).alloc (by simp;omega) _)
 have C:Hid (Bk 28 i w.heap.size #[ptr p]):=ZZ (by
  rw[l,m]
  exact(zao _ _ _ (by simp;omega)).trans ((zao _ _ _ (by simp)).trans (zaf w _)))
 have aj:Hid (Bk 53 i (w.heap.size+1) #[.slice none 0 0]):=ZZ (by
  rw[l,m]
  exact(zao _ _ _ (by simp)).trans (ZdR w _ _))
 have HY:Hid (Bk 153 i (w.heap.size+2) (ZzT p w.heap.size (w.heap.size+1))):=ZZ (by
  rw[l,<-G]
  exact zaf j _)
 obtain⟨f,J⟩:=zgy (J5 (s,d));have aa:=Zfa (s,d);rw[<-J] at aa
 have ai:Hid (Calls prog 62 #[.slice (some ⟨j.heap.size,0,none⟩) 7 7] i fun e w'=>e=.returned (.int .i64 f.2)∧SD K w' pd p f.1.1 f.1.2 (N+28) (T+560000)∧Ql (fun k=>¬ K k) w w'∧Bk 28 w' w.heap.size #[ptr p]):=ZZ (by
  have hm:=ZxJ (K0:=fun k=>(K k∨k=w.heap.size)∨k=w.heap.size+2) (K2:=fun k=>K k∨(w.heap.size<=k∧k<i.heap.size)) (R:=w.heap.size) (Rb:=w.heap.size+1) (Y:=w.heap.size+2) i (.inr rfl) (fun k hk=>by
   rcases hk with (hk | hk) | hk
   ·exact .inl hk
   ·exact .inr (by omega)
   ·exact .inr (by omega)) (fun hk=>by
   rcases hk with (hk | hk) | hk
   ·have:=D _ hk;omega
   ·omega
   ·omega) HY.o (fun k hk=>by
   rcases hk with hk | hk
   ·have:=D k hk;omega
   ·exact hk.2) (h.fresh af.o) ⟨_,aj.o,.inr (by omega),.inr (by omega),C.o,fun hh=>absurd hh (by decide)⟩ S hN hT
  rw[<-J] at hm;rw[G];refine hm.mono ?_;rintro e w' ⟨rfl,Kd,k1,k2,Q,k4,-⟩
  refine⟨rfl,k4.less (fun k hk=>k1 k (.inl hk)),(Ql.ofBelow af.o).trans (Q.mono (fun k hk S=>hk (.inl (.inl S)))) (fun _ _ h=>h),C.o.keep (Q.block _ C.o.lt (fun hh=>hh (.inl (.inr rfl))))⟩)
 have q:Hid (Xp (s,d)=if f.2=0 then(({ f.1.1 with bases:=f.1.1.bases++[f.1.1.now] },f.1.2),0) else f):=ZZ (by rw[J];rfl)
 have al:Hid (f.1.1.bases.length<=1000000):=ZZ (by rw[aa.2.1];exact aq)
 obtain⟨P,ak⟩:=zgy (Xp (s,d));rw[<-ak] at q ⊢;have av:=ZZ D;simp only [ZzT,Zfb,Stp.val] at l;have am:=ZZ l;clear h S aq J aa ak D HY aj C af
 go_enter func24,ntmps24
 go_upto_region 2 with fail
 rw[<-m]
 have r0:j.cell? ⟨w.heap.size,0,none⟩=some (ptr p):=by
  have hb:Bk 28 j w.heap.size #[ptr p]:=by
   rw[m];exact(zao _ _ _ (by simp)).trans (zaf w _)
  exact(hb.cell 0 rfl).1
 clear m l G ay
 go_wp2_with fail
 rw[<-am.o];refine ai.o.mono ?_;rintro e b ⟨rfl,ao,ap,ae⟩;have A:=ZZ ao;have x:=ZZ ap;have B:=ZZ ae;obtain⟨r2,-⟩:=ae.cell 0 rfl;clear am ai ao ap ae r0;obtain⟨⟨s',d'⟩,c⟩:=f
 dsimp only at A q al
 by_cases U:c=0
 case neg=>
  have E:Hid (Jz K w pd p P (N+28) (T+560000) (.returned (.int .i64 c)) b):=ZZ (by
   rw[q.o,zaa U]
   exact⟨rfl,A.o,x.o⟩)
  have aC:(c != 0)=true:=by rw[zbf];exact U
  clear U q A x;go_wp2;go_ret;exact E.o
 subst U;rw[zab rfl] at q;obtain⟨F,M,I,L,g1,g,g3,g4,g5,g6,g7⟩:=A.o;have HL:=ZZ g;obtain⟨-,-,-,-,c4,⟨c5,c6,c7,c8,c9,az⟩,-⟩:=g.cs;obtain⟨ba,bc,V⟩:=Z8 g.bases;obtain⟨y,u,lc,t,z,v,X,Z⟩:=g.now.shape;have ac:L.nl=.slice y u lc:=X;have ab:L.nt=.slice t z v:=Z;have aA:Hid (snC (L.nx s')=#[.int .i64 s'.now.idx,.int .i64 s'.now.st.kind,.slice y u lc,.bool s'.now.st.shut,.int .i64 s'.now.st.eng,.slice t z v]):=ZZ (by unfold snC ZdU.nx;rw[ac,ab])
 have au:Hid (SlX (L.nx s')):=ZZ ⟨y,u,lc,t,z,v,X,Z⟩
 have ar:Hid (L.bs.length<=10000000):=ZZ (by
  have O:=al.o;rw[<-g.bsEq,zcz] at O
  omega)
 have E:Hid (∀ v' W,W.ownsRow 0 41 6 v' (L.bs++[L.nx s']).length (Xv (L.bs++[L.nx s']))->(b.drew.alloc (.cells (snC (L.nx s')) 41)).grownBy W L.bv.ownBlock->(v'.ownBlock=L.bv.ownBlock∨v'.ownBlock=some (b.drew.heap.size+1))->
  Jz K w pd p P (N+28) (T+560000) (.returned (.int .i64 0)) (W.setCell ⟨p,4,none⟩ v')∧W.cell? ⟨p,4,none⟩=some L.bv∧W.frozen? ⟨p,4,none⟩=false∧W.cell? ⟨w.heap.size,0,none⟩=some (ptr p)):=ZZ (fun v' W hr hg hv=>by
  have H:Below b.heap.size b b.drew:=(zac _ _).drew;obtain⟨k1,k2,⟨Q,k4⟩,k5⟩:=(g.below H).addBase hr hg hv;have ax:∀ k,K k->k<b.drew.heap.size:=fun k hk=>zav (av.o k hk) (zas x.o.size H.size)
  obtain⟨m1,m2⟩:=SD.own ax (g1.below H) g3 g4 g5 g6 g7 k2 k1 (fun k hk=>by
   rcases hk with hk | hk
   ·exact .inl hk
   ·exact k5 k hk) (fun k hk=>.inl hk)
  refine⟨?_,Q,k4,?_⟩
  ·rw[q.o]
   exact⟨rfl,m1,(x.o.trans (Ql.ofBelow (F:=fun _=>False) H) (fun _ _ h=>h.elim)).trans m2 (fun _ _ h=>h)⟩
  ·have h2:L.bv.ownBlock≠some w.heap.size:=fun e=>by
    obtain⟨cs,hb⟩:=X0 g.bases e;exact hb.ne B.o (by decide) rfl
   have h3:W.heap[w.heap.size]?=b.heap[w.heap.size]?:=by
    rw[hg.block _ (by simp;have:=B.o.lt;omega) (fun e=>h2 e.symm)]
    exact zao b _ _ B.o.lt
   exact((B.o.keep h3).cell 0 rfl).1)
 rw[V] at c4;rw[ac] at c7;rw[ab] at az
 have aB:Hid (b.drew.ownsRow 0 41 6 (.slice ba L.bs.length bc) L.bs.length (Xv L.bs)):=ZZ (by
  have O:=(g.below (zac _ b).drew).bases;rw[V] at O
  exact O)
 rw[V] at E;generalize s'.now.idx=n0 at *;generalize s'.now.st.kind=n1 at *;generalize s'.now.st.shut=n2 at *;generalize s'.now.st.eng=n3 at *;have q4:(b.alloc (.cells #[.int .i64 n0,.int .i64 n1,.slice y u lc,.bool n2,.int .i64 n3,.slice t z v] 41)).cell? ⟨p,4,none⟩=some (.slice ba L.bs.length bc):=(zb2 (a:=⟨p,4,none⟩) (zao b _ p (g.ltM p g.mh))).trans c4;have q0:(b.alloc (.cells #[.int .i64 n0,.int .i64 n1,.slice y u lc,.bool n2,.int .i64 n3,.slice t z v] 41)).cell? ⟨w.heap.size,0,none⟩=some (ptr p):=(zb2 (a:=⟨w.heap.size,0,none⟩) (zao b _ _ B.o.lt)).trans r2;clear g1 g g3 g4 g5 g6 g7 X Z ac ab V q A x HL
 go_upto_region 9 with fail
 go_region_law(refine ZjZ (by rfl) _ _ (by rfl) (.slice ba L.bs.length bc) L.bs (by rfl) (L.nx s') b.drew (by rw[aA.o];rfl) aB.o au.o (by rfl) ar.o ?_;intro v9 W9 ad an ag;obtain⟨hA,t1,t2,t3⟩:=E.o v9 W9 ad an ag;have aw:=ZZ hA;obtain⟨z1,z3,z2,hz⟩:∃ a n c,v9=Value.slice a n c:=(by obtain⟨a,c,h⟩:=Z8 ad;exact⟨_,_,_,h⟩);subst hz;clear hA ad an ag)
 all_goals
  go_wp2;go_ret;exact aw.o
end Go.Proofs.YtnahjngbneicaaaGreatDoor
