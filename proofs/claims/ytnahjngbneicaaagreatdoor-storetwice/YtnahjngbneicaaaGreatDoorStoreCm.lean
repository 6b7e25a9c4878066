import Derived.Test.YtnahjngbneicaaaGreatDoorStoreCl
namespace Go.Proofs.YtnahjngbneicaaaGreatDoor
open _root_.Go.Proofs.Tryz
set_option maxRecDepth 100000
open Go.RowKit
variable {w:World} {p pd:Nat} {s:Sto}
theorem Zjr {d:Array Oper} {o:Oper} {a:Act} {K:Act->World->Prop} {Q:Exit->Act->World->Prop} {E:Prop}
 (q:o.guard=none) (s x:Operand) (p:o.op=Op.call { callee:=Callee.builtin Builtin.append,args:=#[s,x],argTypes:=#[74,74] })
 (v:Value) (l:List (Qv × Value × Value)) (m:a.eval s=v) (c:Qv × Value × Value) (b:World) (e:w=b.alloc (.cells (snC c) 41)) (h:b.ownsRow 0 41 6 v l.length (Xh l)) (j:SlX c) (t:a.eval x=.slice (some ⟨b.heap.size,0,none⟩) 1 1) (k:l.length<=10000000)
 (g:∀ v' w',w'.ownsRow 0 41 6 v' (l++[c]).length (Xh (l++[c]))->(b.alloc (.cells (snC c) 41)).grownBy w' v.ownBlock->(v'.ownBlock=v.ownBlock∨v'.ownBlock=some (b.heap.size+1))->K (a.put o.dst v') w'):
 if Region.wanted o (yielded d a.tmps)=true then Oper.wp prog o a w K Q else E:=by
 have i:Region.wanted o (yielded d a.tmps)=true:=by simp[Region.wanted,q]
 rw[if_pos i];subst e;obtain⟨v',w',y,f,n,u⟩:=ZeO b o.type v l h c j k;unfold Oper.wp execOp;simp only [p,resolve,invoke,builtin,Sem.run_bind,Sem.run_pure,Result.andThen_ok,List.map_toArray,List.map_cons,List.map_nil,m,t,y];exact g v' w' f n u
theorem Z0.addBase {M I:Nat->Prop} {W:World} {L:ZdP} {b:Value} (h:Z0 M I w p pd L s) (A:W.ownsRow 0 41 6 b (L.bs++[L.nx s]).length (Xh (L.bs++[L.nx s]))) (a:(w.alloc (.cells (snC (L.nx s)) 41)).grownBy W L.bv.ownBlock) (hv:b.ownBlock=L.bv.ownBlock∨b.ownBlock=some (w.heap.size+1)):
 Z0 (fun k=>M k∨b.ownBlock=some k) I (W.setCell ⟨p,4,none⟩ b) p pd { L with bv:=b,bs:=L.bs++[L.nx s] } { s with bases:=s.bases++[s.now] }∧Qj M w (W.setCell ⟨p,4,none⟩ b)∧(W.cell? ⟨p,4,none⟩=some L.bv∧W.frozen? ⟨p,4,none⟩=false)∧∀ k,b.ownBlock=some k->M k∨w.heap.size<=k:=by
 have u:∀ g,L.bv.ownBlock=some g->g≠p:=fun g a e=>by
  obtain⟨cs,c⟩:=Xm h.bases a;rw[e] at c;exact c.ne h.head (by decide) rfl
 have y:(w.alloc (.cells (snC (L.nx s)) 41)).heap.size=w.heap.size+1:=by simp
 have z:∀ k,k<w.heap.size->L.bv.ownBlock≠some k->W.heap[k]?=w.heap[k]?:=fun k hk i=>by
  rw[a.block k (by rw[y];omega) (fun e=>i e.symm)]
  exact Below.heap_alloc _ _ _ (by omega)
 have Q:w.heap.size+1<=W.heap.size:=by have:=a.size;rw[y] at this;exact this
 have l:∀ k,b.ownBlock=some k->M k∨w.heap.size<=k:=fun k hk=>by
  rcases hv with hv | hv
  ·exact .inl (h.mb k (by rw[<-hv];exact hk))
  ·rw[hv] at hk
   have:=Option.some.inj hk;exact .inr (by omega)
 have J:W.heap[p]?=w.heap[p]?:=z p (h.ltM p h.mh) (fun e=>u p e rfl)
 have f:=h.head.keep J;have q:∀ k,k≠p->(W.setCell ⟨p,4,none⟩ b).heap[k]?=W.heap[k]?:=fun k hk=>Below.heap_setCell _ _ _ _ hk
 have B:(W.setCell ⟨p,4,none⟩ b).heap.size=W.heap.size:=ZpJ _ _ _ _;have C:∀ k,k<w.heap.size->k≠p->L.bv.ownBlock≠some k->(W.setCell ⟨p,4,none⟩ b).heap[k]?=w.heap[k]?:=fun k h1 E H=>by rw[q k E,z k h1 H]
 have d:∀ k,I k->(W.setCell ⟨p,4,none⟩ b).heap[k]?=w.heap[k]?:=fun k hk=>C k (h.ltI k hk) (fun e=>h.dis p h.mh (by rw[<-e];exact hk)) (fun e=>h.dis k (h.mb k e) hk)
 have N:∀ k,b.ownBlock=some k->k≠p:=fun k hk e=>by
  rcases hv with hv | hv
  ·exact u k (by rw[<-hv];exact hk) e
  ·rw[hv] at hk
   have:=Option.some.inj hk;have:=h.ltM p h.mh;omega
 have m:∀ {t:TypeId} {v:Value} {n sz:Nat} {xs:List Value},w.ownsRow 0 t sz v n xs->t≠76->t≠41->(W.setCell ⟨p,4,none⟩ b).ownsRow 0 t sz v n xs:=fun D O K=>Qh D fun g a=>by
  obtain⟨cs,c⟩:=Xm D a;refine C g c.lt (c.ne h.head O) (fun e=>?_)
  obtain⟨P,G⟩:=Xm h.bases e;exact c.ne G K rfl
 refine⟨⟨f.set 4 b,m h.recs (by decide) (by decide),m h.pcs (by decide) (by decide),Qh A fun g a=>q g (N g a),?_,h.now.keep h.inow d,fun x hx=>?_,.inl h.mh,fun g a=>.inl (h.mr g a),fun g a=>.inl (h.mp g a),fun g a=>.inr a,h.inow,fun x hx=>?_,fun k hk=>?_,fun k hk=>?_,fun k hk j=>?_⟩,?_,⟨(f.cell 4 rfl).1,(f.cell 4 rfl).2⟩,l⟩
 ·rw[List.map_append,h.bsEq];rfl
 ·rcases List.mem_append.1 hx with hx | hx
  ·exact(h.base x hx).keep (h.ibase x hx) d
  ·rw[List.mem_singleton.1 hx];exact h.now.keep h.inow d
 ·rcases List.mem_append.1 hx with hx | hx
  ·exact h.ibase x hx
  ·rw[List.mem_singleton.1 hx];exact h.inow
 ·rw[B]
  rcases hk with hk | hk
  ·have:=h.ltM k hk;omega
  ·exact(World.ownsRow.lt A k hk).2
 ·rw[B]
  have:=h.ltI k hk;omega
 ·rcases hk with hk | hk
  ·exact h.dis k hk j
  ·rcases l k hk with h1 | h1
   ·exact h.dis k h1 j
   ·have:=h.ltI k j
    omega
 ·have F:Qj M w (w.alloc (.cells (snC (L.nx s)) 41)):=Qj.ofBelow (Jc _ _)
  have c:Qj M (w.alloc (.cells (snC (L.nx s)) 41)) W:=⟨a.os,a.tape,a.output,a.size,fun k hk i=>a.block k hk (fun e=>i (h.mb k e.symm))⟩
  exact((F.trans c (fun _ _ h=>h)).trans (((Qj.refl M W).setCell 4 (fun _=>h.mh) b)) (fun _ _ h=>h))
set_option maxHeartbeats 4000000 in
theorem ZiN {K:Nat->Prop} {d:Dk} {N T:Nat} (w:World) (h:SD K w pd p s d N T) (Q:∀ k,K k->k<w.heap.size) (O:ZoJ s) (ak:s.bases.length<=1000000) (hN:N<=900000) (hT:T<=90000000):
 Calls prog 24 #[ptr p] w fun e w'=>Z6 K w pd p (Yp (s,d)) (N+28) (T+560000) e w':=by
 obtain⟨j,m⟩:∃ j,j=(w.alloc (.cells #[ptr p] 28)).alloc (.cells #[.slice none 0 0] 53):=⟨_,rfl⟩;have E:j.heap.size=w.heap.size+2:=by rw[m];simp
 obtain⟨i,l⟩:∃ i,i=j.alloc (.cells (ZyF p w.heap.size (w.heap.size+1)) 153):=⟨_,rfl⟩;have aA:i.heap.size=w.heap.size+3:=by rw[l];simp[E]
 have ac:Hid (Below w.heap.size w i):=ZZ (by rw[l,m];exact(((Below.refl _ _).alloc zL _).alloc (by simp) _).alloc (by simp;omega) _)
 have C:Hid (Bk 28 i w.heap.size #[ptr p]):=ZZ (by
  rw[l,m]
  exact(Below.heap_alloc _ _ _ (by simp;omega)).trans ((Below.heap_alloc _ _ _ (by simp)).trans (heap_alloc_new w _)))
 have ai:Hid (Bk 53 i (w.heap.size+1) #[.slice none 0 0]):=ZZ (by
  rw[l,m]
  exact(Below.heap_alloc _ _ _ (by simp)).trans (ZdM w _ _))
 have HY:Hid (Bk 153 i (w.heap.size+2) (ZyF p w.heap.size (w.heap.size+1))):=ZZ (by
  rw[l,<-E]
  exact heap_alloc_new j _)
 obtain⟨f,D⟩:∃ f,f=ZdF (s,d):=⟨_,rfl⟩;have ae:=ZiC (s,d);rw[<-D] at ae
 have am:Hid (Calls prog 62 #[.slice (some ⟨j.heap.size,0,none⟩) 7 7] i fun e w'=>e=.returned (.int .i64 f.2)∧SD K w' pd p f.1.1 f.1.2 (N+28) (T+560000)∧Qj (fun k=>¬ K k) w w'∧Bk 28 w' w.heap.size #[ptr p]):=ZZ (by
  have hm:=ZwD (K0:=fun k=>(K k∨k=w.heap.size)∨k=w.heap.size+2) (K2:=fun k=>K k∨(w.heap.size<=k∧k<i.heap.size)) (R:=w.heap.size) (Rb:=w.heap.size+1) (Y:=w.heap.size+2) i (.inr rfl) (fun k hk=>by
   rcases hk with (hk | hk) | hk
   ·exact .inl hk
   ·exact .inr (by omega)
   ·exact .inr (by omega)) (fun hk=>by
   rcases hk with (hk | hk) | hk
   ·have:=Q _ hk;omega
   ·omega
   ·omega) HY.o (fun k hk=>by
   rcases hk with hk | hk
   ·have:=Q k hk;omega
   ·exact hk.2) (h.fresh ac.o) ⟨_,ai.o,.inr (by omega),.inr (by omega),C.o,fun hh=>absurd hh (by decide)⟩ O hN hT
  rw[<-D] at hm;rw[E];refine hm.mono ?_;rintro e w' ⟨rfl,Kd,k1,k2,S,k4,-⟩
  refine⟨rfl,k4.less (fun k hk=>k1 k (.inl hk)),(Qj.ofBelow ac.o).trans (S.mono (fun k hk O=>hk (.inl (.inl O)))) (fun _ _ h=>h),C.o.keep (S.block _ C.o.lt (fun hh=>hh (.inl (.inr rfl))))⟩)
 have q:Hid (Yp (s,d)=if f.2=0 then(({ f.1.1 with bases:=f.1.1.bases++[f.1.1.now] },f.1.2),0) else f):=ZZ (by rw[D];rfl)
 have an:Hid (f.1.1.bases.length<=1000000):=ZZ (by rw[ae.2.1];exact ak)
 obtain⟨V,aj⟩:∃ V,V=Yp (s,d):=⟨_,rfl⟩;rw[<-aj] at q ⊢;have aw:=ZZ Q;simp only [ZyF,ZeQ,Stp.val] at l;have ao:=ZZ l;clear h O ak D ae aj Q HY ai C ac
 go_enter func24,ntmps24
 go_upto_region 2 with fail
 rw[<-m]
 have r0:j.cell? ⟨w.heap.size,0,none⟩=some (ptr p):=by
  have hb:Bk 28 j w.heap.size #[ptr p]:=by
   rw[m];exact(Below.heap_alloc _ _ _ (by simp)).trans (heap_alloc_new w _)
  exact(hb.cell 0 rfl).1
 clear m l E aA
 go_wp2_with fail
 rw[<-ao.o];refine am.o.mono ?_;rintro e b ⟨rfl,ap,aq,ad⟩;have y:=ZZ ap;have A:=ZZ aq;have u:=ZZ ad;obtain⟨r2,-⟩:=ad.cell 0 rfl;clear ao am ap aq ad r0;obtain⟨⟨s',d'⟩,c⟩:=f
 dsimp only at y q an
 by_cases P:c=0
 case neg=>
  have U:Hid (Z6 K w pd p V (N+28) (T+560000) (.returned (.int .i64 c)) b):=ZZ (by
   rw[q.o,if_neg P]
   exact⟨rfl,y.o,A.o⟩)
  have aD:(c != 0)=true:=by rw[bne_iff_ne];exact P
  clear P q y A;go_wp2;go_ret;exact U.o
 subst P;rw[if_pos rfl] at q;obtain⟨F,M,I,L,g1,g,g3,g4,g5,g6,g7⟩:=y.o;have HL:=ZZ g;obtain⟨-,-,-,-,c4,⟨c5,c6,c7,c8,c9,ay⟩,-⟩:=g.cs;obtain⟨Z,bc,J⟩:=Zg g.bases;obtain⟨t,x,lc,z,v,B,aa,ag⟩:=g.now.shape;have ab:L.nl=.slice t x lc:=aa;have X:L.nt=.slice z v B:=ag;have ax:Hid (snC (L.nx s')=#[.int .i64 s'.now.idx,.int .i64 s'.now.st.kind,.slice t x lc,.bool s'.now.st.shut,.int .i64 s'.now.st.eng,.slice z v B]):=ZZ (by unfold snC ZdP.nx;rw[ab,X])
 have av:Hid (SlX (L.nx s')):=ZZ ⟨t,x,lc,z,v,B,aa,ag⟩
 have az:Hid (L.bs.length<=10000000):=ZZ (by
  have H:=an.o;rw[<-g.bsEq,List.length_map] at H
  omega)
 have U:Hid (∀ v' W,W.ownsRow 0 41 6 v' (L.bs++[L.nx s']).length (Xh (L.bs++[L.nx s']))->(b.drew.alloc (.cells (snC (L.nx s')) 41)).grownBy W L.bv.ownBlock->(v'.ownBlock=L.bv.ownBlock∨v'.ownBlock=some (b.drew.heap.size+1))->
  Z6 K w pd p V (N+28) (T+560000) (.returned (.int .i64 0)) (W.setCell ⟨p,4,none⟩ v')∧W.cell? ⟨p,4,none⟩=some L.bv∧W.frozen? ⟨p,4,none⟩=false∧W.cell? ⟨w.heap.size,0,none⟩=some (ptr p)):=ZZ (fun v' W hr hg hv=>by
  have G:Below b.heap.size b b.drew:=(Below.refl _ _).drew;obtain⟨k1,k2,⟨S,k4⟩,k5⟩:=(g.below G).addBase hr hg hv;have aC:∀ k,K k->k<b.drew.heap.size:=fun k hk=>Nat.lt_of_lt_of_le (aw.o k hk) (Nat.le_trans A.o.size G.size)
  obtain⟨m1,m2⟩:=SD.own aC (g1.below G) g3 g4 g5 g6 g7 k2 k1 (fun k hk=>by
   rcases hk with hk | hk
   ·exact .inl hk
   ·exact k5 k hk) (fun k hk=>.inl hk)
  refine⟨?_,S,k4,?_⟩
  ·rw[q.o]
   exact⟨rfl,m1,(A.o.trans (Qj.ofBelow (F:=fun _=>False) G) (fun _ _ h=>h.elim)).trans m2 (fun _ _ h=>h)⟩
  ·have h2:L.bv.ownBlock≠some w.heap.size:=fun e=>by
    obtain⟨cs,hb⟩:=Xm g.bases e;exact hb.ne u.o (by decide) rfl
   have h3:W.heap[w.heap.size]?=b.heap[w.heap.size]?:=by
    rw[hg.block _ (by simp;have:=u.o.lt;omega) (fun e=>h2 e.symm)]
    exact Below.heap_alloc b _ _ u.o.lt
   exact((u.o.keep h3).cell 0 rfl).1)
 rw[J] at c4;rw[ab] at c7;rw[X] at ay
 have au:Hid (b.drew.ownsRow 0 41 6 (.slice Z L.bs.length bc) L.bs.length (Xh L.bs)):=ZZ (by
  have H:=(g.below (Below.refl _ b).drew).bases;rw[J] at H
  exact H)
 rw[J] at U;generalize s'.now.idx=n0 at *;generalize s'.now.st.kind=n1 at *;generalize s'.now.st.shut=n2 at *;generalize s'.now.st.eng=n3 at *;have q4:(b.alloc (.cells #[.int .i64 n0,.int .i64 n1,.slice t x lc,.bool n2,.int .i64 n3,.slice z v B] 41)).cell? ⟨p,4,none⟩=some (.slice Z L.bs.length bc):=(World.cell?_of_block (a:=⟨p,4,none⟩) (Below.heap_alloc b _ p (g.ltM p g.mh))).trans c4;have q0:(b.alloc (.cells #[.int .i64 n0,.int .i64 n1,.slice t x lc,.bool n2,.int .i64 n3,.slice z v B] 41)).cell? ⟨w.heap.size,0,none⟩=some (ptr p):=(World.cell?_of_block (a:=⟨w.heap.size,0,none⟩) (Below.heap_alloc b _ _ u.o.lt)).trans r2;clear g1 g g3 g4 g5 g6 g7 aa ag ab X J q y A HL
 go_upto_region 9 with fail
 go_region_law(refine Zjr (by rfl) _ _ (by rfl) (.slice Z L.bs.length bc) L.bs (by rfl) (L.nx s') b.drew (by rw[ax.o];rfl) au.o av.o (by rfl) az.o ?_;intro v9 W9 af ar al;obtain⟨hA,t1,t2,t3⟩:=U.o v9 W9 af ar al;have aB:=ZZ hA;obtain⟨z1,z3,z2,hz⟩:∃ a n c,v9=Value.slice a n c:=(by obtain⟨a,c,h⟩:=Zg af;exact⟨_,_,_,h⟩);subst hz;clear hA af ar al)
 all_goals
  go_wp2;go_ret;exact aB.o
end Go.Proofs.YtnahjngbneicaaaGreatDoor
