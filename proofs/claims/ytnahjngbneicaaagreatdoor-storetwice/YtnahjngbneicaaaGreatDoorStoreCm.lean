import Derived.Test.YtnahjngbneicaaaGreatDoorStoreCl
namespace Go.Proofs.YtnahjngbneicaaaGreatDoor
open _root_.Go.Proofs.Tryz
set_option maxRecDepth 100000
open Go.RowKit
variable {w:World} {p pd:Nat} {s:Sto}
theorem ZmH {d:Array Oper} {o:Oper} {a:Act} {K:Act->World->Prop} {Q:Exit->Act->World->Prop} {E:Prop}
 (k:o.guard=none) (s x:Operand) (e:o.op=Op.call { callee:=Callee.builtin Builtin.append,args:=#[s,x],argTypes:=#[74,74] })
 (v:Value) (l:List (ZaW × Value × Value)) (m:a.eval s=v) (c:ZaW × Value × Value) (b:World) (j:w=b.alloc (.cells (snC c) 41)) (h:b.ownsRow 0 41 6 v l.length (ZaN l)) (y:SlX c) (t:a.eval x=.slice (some ⟨b.heap.size,0,none⟩) 1 1) (f:l.length<=10000000)
 (g:∀ v' w',w'.ownsRow 0 41 6 v' (l++[c]).length (ZaN (l++[c]))->(b.alloc (.cells (snC c) 41)).grownBy w' v.ownBlock->(v'.ownBlock=v.ownBlock∨v'.ownBlock=some (b.heap.size+1))->K (a.put o.dst v') w'):
 if Region.wanted o (yielded d a.tmps)=true then Oper.wp prog o a w K Q else E:=by
 have p:Region.wanted o (yielded d a.tmps)=true:=by simp[Region.wanted,k]
 rw[if_pos p];subst j;obtain⟨v',w',q,u,n,i⟩:=Zie b o.type v l h c y f;unfold Oper.wp execOp;simp only [e,resolve,invoke,builtin,Sem.run_bind,Sem.run_pure,Result.andThen_ok,List.map_toArray,List.map_cons,List.map_nil,m,t,q];exact g v' w' u n i
theorem ZeO.addBase {M I:Nat->Prop} {W:World} {L:Zhf} {b:Value} (h:ZeO M I w p pd L s) (A:W.ownsRow 0 41 6 b (L.bs++[L.nx s]).length (ZaN (L.bs++[L.nx s]))) (a:(w.alloc (.cells (snC (L.nx s)) 41)).grownBy W L.bv.ownBlock) (hv:b.ownBlock=L.bv.ownBlock∨b.ownBlock=some (w.heap.size+1)):
 ZeO (fun k=>M k∨b.ownBlock=some k) I (W.setCell ⟨p,4,none⟩ b) p pd { L with bv:=b,bs:=L.bs++[L.nx s] } { s with bases:=s.bases++[s.now] }∧Zap M w (W.setCell ⟨p,4,none⟩ b)∧(W.cell? ⟨p,4,none⟩=some L.bv∧W.frozen? ⟨p,4,none⟩=false)∧∀ k,b.ownBlock=some k->M k∨w.heap.size<=k:=by
 have l:∀ g,L.bv.ownBlock=some g->g≠p:=fun g a e=>by
  obtain⟨cs,c⟩:=ZaR h.bases a;rw[e] at c;exact c.ne h.head (by decide) rfl
 have u:(w.alloc (.cells (snC (L.nx s)) 41)).heap.size=w.heap.size+1:=by simp
 have B:∀ k,k<w.heap.size->L.bv.ownBlock≠some k->W.heap[k]?=w.heap[k]?:=fun k hk i=>by
  rw[a.block k (by rw[u];omega) (fun e=>i e.symm)]
  exact Below.heap_alloc _ _ _ (by omega)
 have Q:w.heap.size+1<=W.heap.size:=by have:=a.size;rw[u] at this;exact this
 have m:∀ k,b.ownBlock=some k->M k∨w.heap.size<=k:=fun k hk=>by
  rcases hv with hv | hv
  ·exact .inl (h.mb k (by rw[<-hv];exact hk))
  ·rw[hv] at hk
   have:=Option.some.inj hk;exact .inr (by omega)
 have N:W.heap[p]?=w.heap[p]?:=B p (h.ltM p h.mh) (fun e=>l p e rfl)
 have d:=h.head.keep N;have q:∀ k,k≠p->(W.setCell ⟨p,4,none⟩ b).heap[k]?=W.heap[k]?:=fun k hk=>Below.heap_setCell _ _ _ _ hk
 have y:(W.setCell ⟨p,4,none⟩ b).heap.size=W.heap.size:=ZsZ _ _ _ _;have C:∀ k,k<w.heap.size->k≠p->L.bv.ownBlock≠some k->(W.setCell ⟨p,4,none⟩ b).heap[k]?=w.heap[k]?:=fun k h1 J F=>by rw[q k J,B k h1 F]
 have j:∀ k,I k->(W.setCell ⟨p,4,none⟩ b).heap[k]?=w.heap[k]?:=fun k hk=>C k (h.ltI k hk) (fun e=>h.dis p h.mh (by rw[<-e];exact hk)) (fun e=>h.dis k (h.mb k e) hk)
 have G:∀ k,b.ownBlock=some k->k≠p:=fun k hk e=>by
  rcases hv with hv | hv
  ·exact l k (by rw[<-hv];exact hk) e
  ·rw[hv] at hk
   have:=Option.some.inj hk;have:=h.ltM p h.mh;omega
 have D:∀ {t:TypeId} {v:Value} {n sz:Nat} {xs:List Value},w.ownsRow 0 t sz v n xs->t≠76->t≠41->(W.setCell ⟨p,4,none⟩ b).ownsRow 0 t sz v n xs:=fun z E K=>Zae z fun g a=>by
  obtain⟨cs,c⟩:=ZaR z a;refine C g c.lt (c.ne h.head E) (fun e=>?_)
  obtain⟨P,H⟩:=ZaR h.bases e;exact c.ne H K rfl
 refine⟨⟨d.set 4 b,D h.recs (by decide) (by decide),D h.pcs (by decide) (by decide),Zae A fun g a=>q g (G g a),?_,h.now.keep h.inow j,fun x hx=>?_,.inl h.mh,fun g a=>.inl (h.mr g a),fun g a=>.inl (h.mp g a),fun g a=>.inr a,h.inow,fun x hx=>?_,fun k hk=>?_,fun k hk=>?_,fun k hk f=>?_⟩,?_,⟨(d.cell 4 rfl).1,(d.cell 4 rfl).2⟩,m⟩
 ·rw[List.map_append,h.bsEq];rfl
 ·rcases List.mem_append.1 hx with hx | hx
  ·exact(h.base x hx).keep (h.ibase x hx) j
  ·rw[List.mem_singleton.1 hx];exact h.now.keep h.inow j
 ·rcases List.mem_append.1 hx with hx | hx
  ·exact h.ibase x hx
  ·rw[List.mem_singleton.1 hx];exact h.inow
 ·rw[y]
  rcases hk with hk | hk
  ·have:=h.ltM k hk;omega
  ·exact(World.ownsRow.lt A k hk).2
 ·rw[y]
  have:=h.ltI k hk;omega
 ·rcases hk with hk | hk
  ·exact h.dis k hk f
  ·rcases m k hk with h1 | h1
   ·exact h.dis k h1 f
   ·have:=h.ltI k f
    omega
 ·have O:Zap M w (w.alloc (.cells (snC (L.nx s)) 41)):=Zap.ofBelow (ZcW _ _)
  have c:Zap M (w.alloc (.cells (snC (L.nx s)) 41)) W:=⟨a.os,a.tape,a.output,a.size,fun k hk i=>a.block k hk (fun e=>i (h.mb k e.symm))⟩
  exact((O.trans c (fun _ _ h=>h)).trans (((Zap.refl M W).setCell 4 (fun _=>h.mh) b)) (fun _ _ h=>h))
set_option maxHeartbeats 4000000 in
theorem Zmd {K:Nat->Prop} {d:Dk} {N T:Nat} (w:World) (h:SD K w pd p s d N T) (Q:∀ k,K k->k<w.heap.size) (D:ZrZ s) (ao:s.bases.length<=1000000) (hN:N<=900000) (hT:T<=90000000):
 Calls prog 24 #[ptr p] w fun e w'=>Zff K w pd p (Zbn (s,d)) (N+28) (T+560000) e w':=by
 obtain⟨j,m⟩:∃ j,j=(w.alloc (.cells #[ptr p] 28)).alloc (.cells #[.slice none 0 0] 53):=⟨_,rfl⟩;have O:j.heap.size=w.heap.size+2:=by rw[m];simp
 obtain⟨i,l⟩:∃ i,i=j.alloc (.cells (ZBV p w.heap.size (w.heap.size+1)) 153):=⟨_,rfl⟩;have ay:i.heap.size=w.heap.size+3:=by rw[l];simp[O]
 have ae:Hid (Below w.heap.size w i):=ZZ (by rw[l,m];exact(((Below.refl _ _).alloc zL _).alloc (by simp) _).alloc (by simp;omega) _)
 have J:Hid (Bk 28 i w.heap.size #[ptr p]):=ZZ (by
  rw[l,m]
  exact(Below.heap_alloc _ _ _ (by simp;omega)).trans ((Below.heap_alloc _ _ _ (by simp)).trans (heap_alloc_new w _)))
 have ag:Hid (Bk 53 i (w.heap.size+1) #[.slice none 0 0]):=ZZ (by
  rw[l,m]
  exact(Below.heap_alloc _ _ _ (by simp)).trans (Zhc w _ _))
 have HY:Hid (Bk 153 i (w.heap.size+2) (ZBV p w.heap.size (w.heap.size+1))):=ZZ (by
  rw[l,<-O]
  exact heap_alloc_new j _)
 obtain⟨f,G⟩:∃ f,f=ZgV (s,d):=⟨_,rfl⟩;have af:=ZlS (s,d);rw[<-G] at af
 have ai:Hid (Calls prog 62 #[.slice (some ⟨j.heap.size,0,none⟩) 7 7] i fun e w'=>e=.returned (.int .i64 f.2)∧SD K w' pd p f.1.1 f.1.2 (N+28) (T+560000)∧Zap (fun k=>¬ K k) w w'∧Bk 28 w' w.heap.size #[ptr p]):=ZZ (by
  have hm:=ZzT (K0:=fun k=>(K k∨k=w.heap.size)∨k=w.heap.size+2) (K2:=fun k=>K k∨(w.heap.size<=k∧k<i.heap.size)) (R:=w.heap.size) (Rb:=w.heap.size+1) (Y:=w.heap.size+2) i (.inr rfl) (fun k hk=>by
   rcases hk with (hk | hk) | hk
   ·exact .inl hk
   ·exact .inr (by omega)
   ·exact .inr (by omega)) (fun hk=>by
   rcases hk with (hk | hk) | hk
   ·have:=Q _ hk;omega
   ·omega
   ·omega) HY.o (fun k hk=>by
   rcases hk with hk | hk
   ·have:=Q k hk;omega
   ·exact hk.2) (h.fresh ae.o) ⟨_,ag.o,.inr (by omega),.inr (by omega),J.o,fun hh=>absurd hh (by decide)⟩ D hN hT
  rw[<-G] at hm;rw[O];refine hm.mono ?_;rintro e w' ⟨rfl,Kd,k1,k2,S,k4,-⟩
  refine⟨rfl,k4.less (fun k hk=>k1 k (.inl hk)),(Zap.ofBelow ae.o).trans (S.mono (fun k hk D=>hk (.inl (.inl D)))) (fun _ _ h=>h),J.o.keep (S.block _ J.o.lt (fun hh=>hh (.inl (.inr rfl))))⟩)
 have q:Hid (Zbn (s,d)=if f.2=0 then(({ f.1.1 with bases:=f.1.1.bases++[f.1.1.now] },f.1.2),0) else f):=ZZ (by rw[G];rfl)
 have al:Hid (f.1.1.bases.length<=1000000):=ZZ (by rw[af.2.1];exact ao)
 obtain⟨V,ap⟩:∃ V,V=Zbn (s,d):=⟨_,rfl⟩;rw[<-ap] at q ⊢;have aw:=ZZ Q;simp only [ZBV,Zig,Stp.val] at l;have ah:=ZZ l;clear h D ao G af ap Q HY ag J ae
 go_enter func24,ntmps24
 go_upto_region 2 with fail
 rw[<-m]
 have r0:j.cell? ⟨w.heap.size,0,none⟩=some (ptr p):=by
  have hb:Bk 28 j w.heap.size #[ptr p]:=by
   rw[m];exact(Below.heap_alloc _ _ _ (by simp)).trans (heap_alloc_new w _)
  exact(hb.cell 0 rfl).1
 clear m l O ay
 go_wp2_with fail
 rw[<-ah.o];refine ai.o.mono ?_;rintro e b ⟨rfl,am,aj,ad⟩;have A:=ZZ am;have u:=ZZ aj;have B:=ZZ ad;obtain⟨r2,-⟩:=ad.cell 0 rfl;clear ah ai am aj ad r0;obtain⟨⟨s',d'⟩,c⟩:=f
 dsimp only at A q al
 by_cases H:c=0
 case neg=>
  have U:Hid (Zff K w pd p V (N+28) (T+560000) (.returned (.int .i64 c)) b):=ZZ (by
   rw[q.o,if_neg H]
   exact⟨rfl,A.o,u.o⟩)
  have aB:(c != 0)=true:=by rw[bne_iff_ne];exact H
  clear H q A u;go_wp2;go_ret;exact U.o
 subst H;rw[if_pos rfl] at q;obtain⟨F,M,I,L,g1,g,g3,g4,g5,g6,g7⟩:=A.o;have HL:=ZZ g;obtain⟨-,-,-,-,c4,⟨c5,c6,c7,c8,c9,aq⟩,-⟩:=g.cs;obtain⟨ba,bc,P⟩:=ZbW g.bases;obtain⟨v,y,lc,z,x,t,X,Z⟩:=g.now.shape;have ac:L.nl=.slice v y lc:=X;have aa:L.nt=.slice z x t:=Z;have aA:Hid (snC (L.nx s')=#[.int .i64 s'.now.idx,.int .i64 s'.now.st.kind,.slice v y lc,.bool s'.now.st.shut,.int .i64 s'.now.st.eng,.slice z x t]):=ZZ (by unfold snC Zhf.nx;rw[ac,aa])
 have au:Hid (SlX (L.nx s')):=ZZ ⟨v,y,lc,z,x,t,X,Z⟩
 have az:Hid (L.bs.length<=10000000):=ZZ (by
  have E:=al.o;rw[<-g.bsEq,List.length_map] at E
  omega)
 have U:Hid (∀ v' W,W.ownsRow 0 41 6 v' (L.bs++[L.nx s']).length (ZaN (L.bs++[L.nx s']))->(b.drew.alloc (.cells (snC (L.nx s')) 41)).grownBy W L.bv.ownBlock->(v'.ownBlock=L.bv.ownBlock∨v'.ownBlock=some (b.drew.heap.size+1))->
  Zff K w pd p V (N+28) (T+560000) (.returned (.int .i64 0)) (W.setCell ⟨p,4,none⟩ v')∧W.cell? ⟨p,4,none⟩=some L.bv∧W.frozen? ⟨p,4,none⟩=false∧W.cell? ⟨w.heap.size,0,none⟩=some (ptr p)):=ZZ (fun v' W hr hg hv=>by
  have C:Below b.heap.size b b.drew:=(Below.refl _ _).drew;obtain⟨k1,k2,⟨S,k4⟩,k5⟩:=(g.below C).addBase hr hg hv;have av:∀ k,K k->k<b.drew.heap.size:=fun k hk=>Nat.lt_of_lt_of_le (aw.o k hk) (Nat.le_trans u.o.size C.size)
  obtain⟨m1,m2⟩:=SD.own av (g1.below C) g3 g4 g5 g6 g7 k2 k1 (fun k hk=>by
   rcases hk with hk | hk
   ·exact .inl hk
   ·exact k5 k hk) (fun k hk=>.inl hk)
  refine⟨?_,S,k4,?_⟩
  ·rw[q.o]
   exact⟨rfl,m1,(u.o.trans (Zap.ofBelow (F:=fun _=>False) C) (fun _ _ h=>h.elim)).trans m2 (fun _ _ h=>h)⟩
  ·have h2:L.bv.ownBlock≠some w.heap.size:=fun e=>by
    obtain⟨cs,hb⟩:=ZaR g.bases e;exact hb.ne B.o (by decide) rfl
   have h3:W.heap[w.heap.size]?=b.heap[w.heap.size]?:=by
    rw[hg.block _ (by simp;have:=B.o.lt;omega) (fun e=>h2 e.symm)]
    exact Below.heap_alloc b _ _ B.o.lt
   exact((B.o.keep h3).cell 0 rfl).1)
 rw[P] at c4;rw[ac] at c7;rw[aa] at aq
 have ar:Hid (b.drew.ownsRow 0 41 6 (.slice ba L.bs.length bc) L.bs.length (ZaN L.bs)):=ZZ (by
  have E:=(g.below (Below.refl _ b).drew).bases;rw[P] at E
  exact E)
 rw[P] at U;generalize s'.now.idx=n0 at *;generalize s'.now.st.kind=n1 at *;generalize s'.now.st.shut=n2 at *;generalize s'.now.st.eng=n3 at *;have q4:(b.alloc (.cells #[.int .i64 n0,.int .i64 n1,.slice v y lc,.bool n2,.int .i64 n3,.slice z x t] 41)).cell? ⟨p,4,none⟩=some (.slice ba L.bs.length bc):=(World.cell?_of_block (a:=⟨p,4,none⟩) (Below.heap_alloc b _ p (g.ltM p g.mh))).trans c4;have q0:(b.alloc (.cells #[.int .i64 n0,.int .i64 n1,.slice v y lc,.bool n2,.int .i64 n3,.slice z x t] 41)).cell? ⟨w.heap.size,0,none⟩=some (ptr p):=(World.cell?_of_block (a:=⟨w.heap.size,0,none⟩) (Below.heap_alloc b _ _ B.o.lt)).trans r2;clear g1 g g3 g4 g5 g6 g7 X Z ac aa P q A u HL
 go_upto_region 9 with fail
 go_region_law(refine ZmH (by rfl) _ _ (by rfl) (.slice ba L.bs.length bc) L.bs (by rfl) (L.nx s') b.drew (by rw[aA.o];rfl) ar.o au.o (by rfl) az.o ?_;intro v9 W9 ab ak an;obtain⟨hA,t1,t2,t3⟩:=U.o v9 W9 ab ak an;have ax:=ZZ hA;obtain⟨z1,z3,z2,hz⟩:∃ a n c,v9=Value.slice a n c:=(by obtain⟨a,c,h⟩:=ZbW ab;exact⟨_,_,_,h⟩);subst hz;clear hA ab ak an)
 all_goals
  go_wp2;go_ret;exact ax.o
end Go.Proofs.YtnahjngbneicaaaGreatDoor
