import Derived.Test.YtnahjngbneicaaaGreatDoorStoreCl
namespace Go.Proofs.YtnahjngbneicaaaGreatDoor
open _root_.Go.Proofs.Tryz
set_option maxRecDepth 100000
open Go.RowKit
theorem ZmH {d:Array Oper} {o:Oper} {a:Act} {w:World} {K:Act->World->Prop} {Q:Exit->Act->World->Prop} {E:Prop}
 (t:o.guard=none) (s x:Operand) (p:o.op=Op.call { callee:=Callee.builtin Builtin.append,args:=#[s,x],argTypes:=#[74,74] })
 (v:Value) (l:List (ZaW × Value × Value)) (m:a.eval s=v) (c:ZaW × Value × Value) (b:World) (g:w=b.alloc (.cells (snC c) 41)) (h:b.ownsRow 0 41 6 v l.length (ZaN l)) (n:SlX c) (f:a.eval x=.slice (some ⟨b.heap.size,0,none⟩) 1 1) (u:l.length<=10000000)
 (j:∀ v' w',w'.ownsRow 0 41 6 v' (l++[c]).length (ZaN (l++[c]))->(b.alloc (.cells (snC c) 41)).grownBy w' v.ownBlock->(v'.ownBlock=v.ownBlock∨v'.ownBlock=some (b.heap.size+1))->K (a.put o.dst v') w'):
 if Region.wanted o (yielded d a.tmps)=true then Oper.wp prog o a w K Q else E:=by
 have e:Region.wanted o (yielded d a.tmps)=true:=by simp[Region.wanted,t]
 rw[if_pos e];subst g;obtain⟨v',w',i,q,k,y⟩:=Zie b o.type v l h c n u;unfold Oper.wp execOp;simp only [p,resolve,invoke,builtin,Sem.run_bind,Sem.run_pure,Result.andThen_ok,List.map_toArray,List.map_cons,List.map_nil,m,f,i];exact j v' w' q k y
theorem ZeO.addBase {M I:Nat->Prop} {w W:World} {p pd:Nat} {L:Zhf} {s:Sto} {b:Value} (h:ZeO M I w p pd L s) (D:W.ownsRow 0 41 6 b (L.bs++[L.nx s]).length (ZaN (L.bs++[L.nx s]))) (a:(w.alloc (.cells (snC (L.nx s)) 41)).grownBy W L.bv.ownBlock) (hv:b.ownBlock=L.bv.ownBlock∨b.ownBlock=some (w.heap.size+1)):
 ZeO (fun k=>M k∨b.ownBlock=some k) I (W.setCell ⟨p,4,none⟩ b) p pd { L with bv:=b,bs:=L.bs++[L.nx s] } { s with bases:=s.bases++[s.now] }∧Zap M w (W.setCell ⟨p,4,none⟩ b)∧(W.cell? ⟨p,4,none⟩=some L.bv∧W.frozen? ⟨p,4,none⟩=false)∧∀ k,b.ownBlock=some k->M k∨w.heap.size<=k:=by
 have C:∀ g,L.bv.ownBlock=some g->g≠p:=fun g a e=>by
  obtain⟨cs,c⟩:=ZaR h.bases a;rw[e] at c;exact c.ne h.head (by decide) rfl
 have A:(w.alloc (.cells (snC (L.nx s)) 41)).heap.size=w.heap.size+1:=by simp
 have u:∀ k,k<w.heap.size->L.bv.ownBlock≠some k->W.heap[k]?=w.heap[k]?:=fun k hk j=>by
  rw[a.block k (by rw[A];omega) (fun e=>j e.symm)]
  exact Below.heap_alloc _ _ _ (by omega)
 have P:w.heap.size+1<=W.heap.size:=by have:=a.size;rw[A] at this;exact this
 have q:∀ k,b.ownBlock=some k->M k∨w.heap.size<=k:=fun k hk=>by
  rcases hv with hv | hv
  ·exact .inl (h.mb k (by rw[<-hv];exact hk))
  ·rw[hv] at hk
   have:=Option.some.inj hk;exact .inr (by omega)
 have O:W.heap[p]?=w.heap[p]?:=u p (h.ltM p h.mh) (fun e=>C p e rfl)
 have d:=h.head.keep O;have m:∀ k,k≠p->(W.setCell ⟨p,4,none⟩ b).heap[k]?=W.heap[k]?:=fun k hk=>Below.heap_setCell _ _ _ _ hk
 have l:(W.setCell ⟨p,4,none⟩ b).heap.size=W.heap.size:=ZsZ _ _ _ _;have B:∀ k,k<w.heap.size->k≠p->L.bv.ownBlock≠some k->(W.setCell ⟨p,4,none⟩ b).heap[k]?=w.heap[k]?:=fun k h1 N G=>by rw[m k N,u k h1 G]
 have f:∀ k,I k->(W.setCell ⟨p,4,none⟩ b).heap[k]?=w.heap[k]?:=fun k hk=>B k (h.ltI k hk) (fun e=>h.dis p h.mh (by rw[<-e];exact hk)) (fun e=>h.dis k (h.mb k e) hk)
 have F:∀ k,b.ownBlock=some k->k≠p:=fun k hk e=>by
  rcases hv with hv | hv
  ·exact C k (by rw[<-hv];exact hk) e
  ·rw[hv] at hk
   have:=Option.some.inj hk;have:=h.ltM p h.mh;omega
 have y:∀ {t:TypeId} {v:Value} {n sz:Nat} {xs:List Value},w.ownsRow 0 t sz v n xs->t≠76->t≠41->(W.setCell ⟨p,4,none⟩ b).ownsRow 0 t sz v n xs:=fun z J K=>Zae z fun g a=>by
  obtain⟨cs,c⟩:=ZaR z a;refine B g c.lt (c.ne h.head J) (fun e=>?_)
  obtain⟨Q,E⟩:=ZaR h.bases e;exact c.ne E K rfl
 refine⟨⟨d.set 4 b,y h.recs (by decide) (by decide),y h.pcs (by decide) (by decide),Zae D fun g a=>m g (F g a),?_,h.now.keep h.inow f,fun x hx=>?_,.inl h.mh,fun g a=>.inl (h.mr g a),fun g a=>.inl (h.mp g a),fun g a=>.inr a,h.inow,fun x hx=>?_,fun k hk=>?_,fun k hk=>?_,fun k hk i=>?_⟩,?_,⟨(d.cell 4 rfl).1,(d.cell 4 rfl).2⟩,q⟩
 ·rw[List.map_append,h.bsEq];rfl
 ·rcases List.mem_append.1 hx with hx | hx
  ·exact(h.base x hx).keep (h.ibase x hx) f
  ·rw[List.mem_singleton.1 hx];exact h.now.keep h.inow f
 ·rcases List.mem_append.1 hx with hx | hx
  ·exact h.ibase x hx
  ·rw[List.mem_singleton.1 hx];exact h.inow
 ·rw[l]
  rcases hk with hk | hk
  ·have:=h.ltM k hk;omega
  ·exact(World.ownsRow.lt D k hk).2
 ·rw[l]
  have:=h.ltI k hk;omega
 ·rcases hk with hk | hk
  ·exact h.dis k hk i
  ·rcases q k hk with h1 | h1
   ·exact h.dis k h1 i
   ·have:=h.ltI k i
    omega
 ·have H:Zap M w (w.alloc (.cells (snC (L.nx s)) 41)):=Zap.ofBelow (ZcW _ _)
  have c:Zap M (w.alloc (.cells (snC (L.nx s)) 41)) W:=⟨a.os,a.tape,a.output,a.size,fun k hk j=>a.block k hk (fun e=>j (h.mb k e.symm))⟩
  exact((H.trans c (fun _ _ h=>h)).trans (((Zap.refl M W).setCell 4 (fun _=>h.mh) b)) (fun _ _ h=>h))
set_option maxHeartbeats 4000000 in
theorem Zmd {K:Nat->Prop} {pd p:Nat} {s:Sto} {d:Dk} {N T:Nat} (w:World) (h:SD K w pd p s d N T) (H:∀ k,K k->k<w.heap.size) (D:ZrZ s) (aj:s.bases.length<=1000000) (hN:N<=900000) (hT:T<=90000000):
 Calls prog 24 #[ptr p] w fun e w'=>Zff K w pd p (Zbn (s,d)) (N+28) (T+560000) e w':=by
 obtain⟨j,q⟩:∃ j,j=(w.alloc (.cells #[ptr p] 28)).alloc (.cells #[.slice none 0 0] 53):=⟨_,rfl⟩;have V:j.heap.size=w.heap.size+2:=by rw[q];simp
 obtain⟨i,l⟩:∃ i,i=j.alloc (.cells (ZBV p w.heap.size (w.heap.size+1)) 153):=⟨_,rfl⟩;have aw:i.heap.size=w.heap.size+3:=by rw[l];simp[V]
 have ah:Hid (Below w.heap.size w i):=ZZ (by rw[l,q];exact(((Below.refl _ _).alloc zL _).alloc (by simp) _).alloc (by simp;omega) _)
 have U:Hid (Bk 28 i w.heap.size #[ptr p]):=ZZ (by
  rw[l,q]
  exact(Below.heap_alloc _ _ _ (by simp;omega)).trans ((Below.heap_alloc _ _ _ (by simp)).trans (heap_alloc_new w _)))
 have am:Hid (Bk 53 i (w.heap.size+1) #[.slice none 0 0]):=ZZ (by
  rw[l,q]
  exact(Below.heap_alloc _ _ _ (by simp)).trans (Zhc w _ _))
 have HY:Hid (Bk 153 i (w.heap.size+2) (ZBV p w.heap.size (w.heap.size+1))):=ZZ (by
  rw[l,<-V]
  exact heap_alloc_new j _)
 obtain⟨f,E⟩:∃ f,f=ZgV (s,d):=⟨_,rfl⟩;have af:=ZlS (s,d);rw[<-E] at af
 have aq:Hid (Calls prog 62 #[.slice (some ⟨j.heap.size,0,none⟩) 7 7] i fun e w'=>e=.returned (.int .i64 f.2)∧SD K w' pd p f.1.1 f.1.2 (N+28) (T+560000)∧Zap (fun k=>¬ K k) w w'∧Bk 28 w' w.heap.size #[ptr p]):=ZZ (by
  have hm:=ZzT (K0:=fun k=>(K k∨k=w.heap.size)∨k=w.heap.size+2) (K2:=fun k=>K k∨(w.heap.size<=k∧k<i.heap.size)) (R:=w.heap.size) (Rb:=w.heap.size+1) (Y:=w.heap.size+2) i (.inr rfl) (fun k hk=>by
   rcases hk with (hk | hk) | hk
   ·exact .inl hk
   ·exact .inr (by omega)
   ·exact .inr (by omega)) (fun hk=>by
   rcases hk with (hk | hk) | hk
   ·have:=H _ hk;omega
   ·omega
   ·omega) HY.o (fun k hk=>by
   rcases hk with hk | hk
   ·have:=H k hk;omega
   ·exact hk.2) (h.fresh ah.o) ⟨_,am.o,.inr (by omega),.inr (by omega),U.o,fun hh=>absurd hh (by decide)⟩ D hN hT
  rw[<-E] at hm;rw[V];refine hm.mono ?_;rintro e w' ⟨rfl,Kd,Z,k2,O,k4,-⟩
  refine⟨rfl,k4.less (fun k hk=>Z k (.inl hk)),(Zap.ofBelow ah.o).trans (O.mono (fun k hk D=>hk (.inl (.inl D)))) (fun _ _ h=>h),U.o.keep (O.block _ U.o.lt (fun hh=>hh (.inl (.inr rfl))))⟩)
 have m:Hid (Zbn (s,d)=if f.2=0 then(({ f.1.1 with bases:=f.1.1.bases++[f.1.1.now] },f.1.2),0) else f):=ZZ (by rw[E];rfl)
 have an:Hid (f.1.1.bases.length<=1000000):=ZZ (by rw[af.2.1];exact aj)
 obtain⟨C,ao⟩:∃ C,C=Zbn (s,d):=⟨_,rfl⟩;rw[<-ao] at m ⊢;have ay:=ZZ H;simp only [ZBV,Zig,Stp.val] at l;have al:=ZZ l;clear h D aj E af ao H HY am U ah
 go_enter func24,ntmps24
 go_upto_region 2 with fail
 rw[<-q]
 have r0:j.cell? ⟨w.heap.size,0,none⟩=some (ptr p):=by
  have hb:Bk 28 j w.heap.size #[ptr p]:=by
   rw[q];exact(Below.heap_alloc _ _ _ (by simp)).trans (heap_alloc_new w _)
  exact(hb.cell 0 rfl).1
 clear q l V aw
 go_wp2_with fail
 rw[<-al.o];refine aq.o.mono ?_;rintro e b ⟨rfl,ar,ak,ae⟩;have v:=ZZ ar;have t:=ZZ ak;have A:=ZZ ae;obtain⟨r2,-⟩:=ae.cell 0 rfl;clear al aq ar ak ae r0;obtain⟨⟨s',d'⟩,c⟩:=f
 dsimp only at v m an
 by_cases Q:c=0
 case neg=>
  have J:Hid (Zff K w pd p C (N+28) (T+560000) (.returned (.int .i64 c)) b):=ZZ (by
   rw[m.o,if_neg Q]
   exact⟨rfl,v.o,t.o⟩)
  have aD:(c != 0)=true:=by rw[bne_iff_ne];exact Q
  clear Q m v t;go_wp2;go_ret;exact J.o
 subst Q;rw[if_pos rfl] at m;obtain⟨F,M,I,L,g1,g,g3,g4,g5,g6,g7⟩:=v.o;have HL:=ZZ g;obtain⟨-,-,-,-,c4,⟨c5,c6,c7,c8,c9,aB⟩,-⟩:=g.cs;obtain⟨ba,X,S⟩:=ZbW g.bases;obtain⟨z,u,lc,B,x,y,ac,aa⟩:=g.now.shape;have ab:L.nl=.slice z u lc:=ac;have ag:L.nt=.slice B x y:=aa;have au:Hid (snC (L.nx s')=#[.int .i64 s'.now.idx,.int .i64 s'.now.st.kind,.slice z u lc,.bool s'.now.st.shut,.int .i64 s'.now.st.eng,.slice B x y]):=ZZ (by unfold snC Zhf.nx;rw[ab,ag])
 have av:Hid (SlX (L.nx s')):=ZZ ⟨z,u,lc,B,x,y,ac,aa⟩
 have aA:Hid (L.bs.length<=10000000):=ZZ (by
  have G:=an.o;rw[<-g.bsEq,List.length_map] at G
  omega)
 have J:Hid (∀ v' W,W.ownsRow 0 41 6 v' (L.bs++[L.nx s']).length (ZaN (L.bs++[L.nx s']))->(b.drew.alloc (.cells (snC (L.nx s')) 41)).grownBy W L.bv.ownBlock->(v'.ownBlock=L.bv.ownBlock∨v'.ownBlock=some (b.drew.heap.size+1))->
  Zff K w pd p C (N+28) (T+560000) (.returned (.int .i64 0)) (W.setCell ⟨p,4,none⟩ v')∧W.cell? ⟨p,4,none⟩=some L.bv∧W.frozen? ⟨p,4,none⟩=false∧W.cell? ⟨w.heap.size,0,none⟩=some (ptr p)):=ZZ (fun v' W hr hg hv=>by
  have P:Below b.heap.size b b.drew:=(Below.refl _ _).drew;obtain⟨Z,k2,⟨O,k4⟩,k5⟩:=(g.below P).addBase hr hg hv;have aC:∀ k,K k->k<b.drew.heap.size:=fun k hk=>Nat.lt_of_lt_of_le (ay.o k hk) (Nat.le_trans t.o.size P.size)
  obtain⟨m1,m2⟩:=SD.own aC (g1.below P) g3 g4 g5 g6 g7 k2 Z (fun k hk=>by
   rcases hk with hk | hk
   ·exact .inl hk
   ·exact k5 k hk) (fun k hk=>.inl hk)
  refine⟨?_,O,k4,?_⟩
  ·rw[m.o]
   exact⟨rfl,m1,(t.o.trans (Zap.ofBelow (F:=fun _=>False) P) (fun _ _ h=>h.elim)).trans m2 (fun _ _ h=>h)⟩
  ·have h2:L.bv.ownBlock≠some w.heap.size:=fun e=>by
    obtain⟨cs,hb⟩:=ZaR g.bases e;exact hb.ne A.o (by decide) rfl
   have h3:W.heap[w.heap.size]?=b.heap[w.heap.size]?:=by
    rw[hg.block _ (by simp;have:=A.o.lt;omega) (fun e=>h2 e.symm)]
    exact Below.heap_alloc b _ _ A.o.lt
   exact((A.o.keep h3).cell 0 rfl).1)
 rw[S] at c4;rw[ab] at c7;rw[ag] at aB
 have ax:Hid (b.drew.ownsRow 0 41 6 (.slice ba L.bs.length X) L.bs.length (ZaN L.bs)):=ZZ (by
  have G:=(g.below (Below.refl _ b).drew).bases;rw[S] at G
  exact G)
 rw[S] at J;generalize s'.now.idx=n0 at *;generalize s'.now.st.kind=n1 at *;generalize s'.now.st.shut=n2 at *;generalize s'.now.st.eng=n3 at *;have q4:(b.alloc (.cells #[.int .i64 n0,.int .i64 n1,.slice z u lc,.bool n2,.int .i64 n3,.slice B x y] 41)).cell? ⟨p,4,none⟩=some (.slice ba L.bs.length X):=(World.cell?_of_block (a:=⟨p,4,none⟩) (Below.heap_alloc b _ p (g.ltM p g.mh))).trans c4;have q0:(b.alloc (.cells #[.int .i64 n0,.int .i64 n1,.slice z u lc,.bool n2,.int .i64 n3,.slice B x y] 41)).cell? ⟨w.heap.size,0,none⟩=some (ptr p):=(World.cell?_of_block (a:=⟨w.heap.size,0,none⟩) (Below.heap_alloc b _ _ A.o.lt)).trans r2;clear g1 g g3 g4 g5 g6 g7 ac aa ab ag S m v t HL
 go_upto_region 9 with fail
 go_region_law(refine ZmH (by rfl) _ _ (by rfl) (.slice ba L.bs.length X) L.bs (by rfl) (L.nx s') b.drew (by rw[au.o];rfl) ax.o av.o (by rfl) aA.o ?_;intro v9 W9 ad ap ai;obtain⟨hA,t1,t2,t3⟩:=J.o v9 W9 ad ap ai;have az:=ZZ hA;obtain⟨z1,z3,z2,hz⟩:∃ a n c,v9=Value.slice a n c:=(by obtain⟨a,c,h⟩:=ZbW ad;exact⟨_,_,_,h⟩);subst hz;clear hA ad ap ai)
 all_goals
  go_wp2;go_ret;exact az.o
end Go.Proofs.YtnahjngbneicaaaGreatDoor
