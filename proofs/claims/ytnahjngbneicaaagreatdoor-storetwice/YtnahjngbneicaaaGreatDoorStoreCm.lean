import Derived.Test.YtnahjngbneicaaaGreatDoorStoreCl
namespace Go.Proofs.YtnahjngbneicaaaGreatDoor
open _root_.Go.Proofs.Tryz
set_option maxRecDepth 100000
open Go.RowKit
variable {w:World} {p pd:Nat} {s:Sto}
theorem Zjr {d:Array Oper} {o:Oper} {a:Act} {K:Act->World->Prop} {Q:Exit->Act->World->Prop} {E:Prop}
 (f:o.guard=none) (s x:Operand) (t:o.op=Op.call { callee:=Callee.builtin Builtin.append,args:=#[s,x],argTypes:=#[74,74] })
 (v:Value) (l:List (Qv × Value × Value)) (q:a.eval s=v) (c:Qv × Value × Value) (b:World) (k:w=b.alloc (.cells (snC c) 41)) (h:b.ownsRow 0 41 6 v l.length (Xh l)) (n:SlX c) (e:a.eval x=.slice (some ⟨b.heap.size,0,none⟩) 1 1) (y:l.length<=10000000)
 (i:∀ v' w',w'.ownsRow 0 41 6 v' (l++[c]).length (Xh (l++[c]))->(b.alloc (.cells (snC c) 41)).grownBy w' v.ownBlock->(v'.ownBlock=v.ownBlock∨v'.ownBlock=some (b.heap.size+1))->K (a.put o.dst v') w'):
 if Region.wanted o (yielded d a.tmps)=true then Oper.wp prog o a w K Q else E:=by
 have u:Region.wanted o (yielded d a.tmps)=true:=by simp[Region.wanted,f]
 rw[if_pos u];subst k;obtain⟨v',w',j,p,g,m⟩:=ZeO b o.type v l h c n y;unfold Oper.wp execOp;simp only [t,resolve,invoke,builtin,Sem.run_bind,Sem.run_pure,Result.andThen_ok,List.map_toArray,List.map_cons,List.map_nil,q,e,j];exact i v' w' p g m
theorem Z0.addBase {M I:Nat->Prop} {W:World} {L:ZdP} {b:Value} (h:Z0 M I w p pd L s) (z:W.ownsRow 0 41 6 b (L.bs++[L.nx s]).length (Xh (L.bs++[L.nx s]))) (a:(w.alloc (.cells (snC (L.nx s)) 41)).grownBy W L.bv.ownBlock) (hv:b.ownBlock=L.bv.ownBlock∨b.ownBlock=some (w.heap.size+1)):
 Z0 (fun k=>M k∨b.ownBlock=some k) I (W.setCell ⟨p,4,none⟩ b) p pd { L with bv:=b,bs:=L.bs++[L.nx s] } { s with bases:=s.bases++[s.now] }∧Qj M w (W.setCell ⟨p,4,none⟩ b)∧(W.cell? ⟨p,4,none⟩=some L.bv∧W.frozen? ⟨p,4,none⟩=false)∧∀ k,b.ownBlock=some k->M k∨w.heap.size<=k:=by
 have A:∀ g,L.bv.ownBlock=some g->g≠p:=fun g a e=>by
  obtain⟨cs,c⟩:=Xm h.bases a;rw[e] at c;exact c.ne h.head (by decide) rfl
 have C:(w.alloc (.cells (snC (L.nx s)) 41)).heap.size=w.heap.size+1:=by simp
 have q:∀ k,k<w.heap.size->L.bv.ownBlock≠some k->W.heap[k]?=w.heap[k]?:=fun k hk j=>by
  rw[a.block k (by rw[C];omega) (fun e=>j e.symm)]
  exact Below.heap_alloc _ _ _ (by omega)
 have P:w.heap.size+1<=W.heap.size:=by have:=a.size;rw[C] at this;exact this
 have l:∀ k,b.ownBlock=some k->M k∨w.heap.size<=k:=fun k hk=>by
  rcases hv with hv | hv
  ·exact .inl (h.mb k (by rw[<-hv];exact hk))
  ·rw[hv] at hk
   have:=Option.some.inj hk;exact .inr (by omega)
 have E:W.heap[p]?=w.heap[p]?:=q p (h.ltM p h.mh) (fun e=>A p e rfl)
 have i:=h.head.keep E;have m:∀ k,k≠p->(W.setCell ⟨p,4,none⟩ b).heap[k]?=W.heap[k]?:=fun k hk=>Below.heap_setCell _ _ _ _ hk
 have u:(W.setCell ⟨p,4,none⟩ b).heap.size=W.heap.size:=ZpJ _ _ _ _;have D:∀ k,k<w.heap.size->k≠p->L.bv.ownBlock≠some k->(W.setCell ⟨p,4,none⟩ b).heap[k]?=w.heap[k]?:=fun k h1 K F=>by rw[m k K,q k h1 F]
 have f:∀ k,I k->(W.setCell ⟨p,4,none⟩ b).heap[k]?=w.heap[k]?:=fun k hk=>D k (h.ltI k hk) (fun e=>h.dis p h.mh (by rw[<-e];exact hk)) (fun e=>h.dis k (h.mb k e) hk)
 have N:∀ k,b.ownBlock=some k->k≠p:=fun k hk e=>by
  rcases hv with hv | hv
  ·exact A k (by rw[<-hv];exact hk) e
  ·rw[hv] at hk
   have:=Option.some.inj hk;have:=h.ltM p h.mh;omega
 have y:∀ {t:TypeId} {v:Value} {n sz:Nat} {xs:List Value},w.ownsRow 0 t sz v n xs->t≠76->t≠41->(W.setCell ⟨p,4,none⟩ b).ownsRow 0 t sz v n xs:=fun B O J=>Qh B fun g a=>by
  obtain⟨cs,c⟩:=Xm B a;refine D g c.lt (c.ne h.head O) (fun e=>?_)
  obtain⟨Q,H⟩:=Xm h.bases e;exact c.ne H J rfl
 refine⟨⟨i.set 4 b,y h.recs (by decide) (by decide),y h.pcs (by decide) (by decide),Qh z fun g a=>m g (N g a),?_,h.now.keep h.inow f,fun x hx=>?_,.inl h.mh,fun g a=>.inl (h.mr g a),fun g a=>.inl (h.mp g a),fun g a=>.inr a,h.inow,fun x hx=>?_,fun k hk=>?_,fun k hk=>?_,fun k hk d=>?_⟩,?_,⟨(i.cell 4 rfl).1,(i.cell 4 rfl).2⟩,l⟩
 ·rw[List.map_append,h.bsEq];rfl
 ·rcases List.mem_append.1 hx with hx | hx
  ·exact(h.base x hx).keep (h.ibase x hx) f
  ·rw[List.mem_singleton.1 hx];exact h.now.keep h.inow f
 ·rcases List.mem_append.1 hx with hx | hx
  ·exact h.ibase x hx
  ·rw[List.mem_singleton.1 hx];exact h.inow
 ·rw[u]
  rcases hk with hk | hk
  ·have:=h.ltM k hk;omega
  ·exact(World.ownsRow.lt z k hk).2
 ·rw[u]
  have:=h.ltI k hk;omega
 ·rcases hk with hk | hk
  ·exact h.dis k hk d
  ·rcases l k hk with h1 | h1
   ·exact h.dis k h1 d
   ·have:=h.ltI k d
    omega
 ·have G:Qj M w (w.alloc (.cells (snC (L.nx s)) 41)):=Qj.ofBelow (Jc _ _)
  have c:Qj M (w.alloc (.cells (snC (L.nx s)) 41)) W:=⟨a.os,a.tape,a.output,a.size,fun k hk j=>a.block k hk (fun e=>j (h.mb k e.symm))⟩
  exact((G.trans c (fun _ _ h=>h)).trans (((Qj.refl M W).setCell 4 (fun _=>h.mh) b)) (fun _ _ h=>h))
set_option maxHeartbeats 4000000 in
theorem ZiN {K:Nat->Prop} {d:Dk} {N T:Nat} (w:World) (h:SD K w pd p s d N T) (Q:∀ k,K k->k<w.heap.size) (V:ZoJ s) (ap:s.bases.length<=1000000) (hN:N<=900000) (hT:T<=90000000):
 Calls prog 24 #[ptr p] w fun e w'=>Z6 K w pd p (Yp (s,d)) (N+28) (T+560000) e w':=by
 obtain⟨j,q⟩:∃ j,j=(w.alloc (.cells #[ptr p] 28)).alloc (.cells #[.slice none 0 0] 53):=⟨_,rfl⟩;have U:j.heap.size=w.heap.size+2:=by rw[q];simp
 obtain⟨i,l⟩:∃ i,i=j.alloc (.cells (ZyF p w.heap.size (w.heap.size+1)) 153):=⟨_,rfl⟩;have ay:i.heap.size=w.heap.size+3:=by rw[l];simp[U]
 have aa:Hid (Below w.heap.size w i):=ZZ (by rw[l,q];exact(((Below.refl _ _).alloc zL _).alloc (by simp) _).alloc (by simp;omega) _)
 have H:Hid (Bk 28 i w.heap.size #[ptr p]):=ZZ (by
  rw[l,q]
  exact(Below.heap_alloc _ _ _ (by simp;omega)).trans ((Below.heap_alloc _ _ _ (by simp)).trans (heap_alloc_new w _)))
 have ai:Hid (Bk 53 i (w.heap.size+1) #[.slice none 0 0]):=ZZ (by
  rw[l,q]
  exact(Below.heap_alloc _ _ _ (by simp)).trans (ZdM w _ _))
 have HY:Hid (Bk 153 i (w.heap.size+2) (ZyF p w.heap.size (w.heap.size+1))):=ZZ (by
  rw[l,<-U]
  exact heap_alloc_new j _)
 obtain⟨f,D⟩:∃ f,f=ZdF (s,d):=⟨_,rfl⟩;have ae:=ZiC (s,d);rw[<-D] at ae
 have am:Hid (Calls prog 62 #[.slice (some ⟨j.heap.size,0,none⟩) 7 7] i fun e w'=>e=.returned (.int .i64 f.2)∧SD K w' pd p f.1.1 f.1.2 (N+28) (T+560000)∧Qj (fun k=>¬ K k) w w'∧Bk 28 w' w.heap.size #[ptr p]):=ZZ (by
  have hm:=ZwD (K0:=fun k=>(K k∨k=w.heap.size)∨k=w.heap.size+2) (K2:=fun k=>K k∨(w.heap.size<=k∧k<i.heap.size)) (R:=w.heap.size) (Rb:=w.heap.size+1) (Y:=w.heap.size+2) i (.inr rfl) (fun k hk=>by
   rcases hk with (hk | hk) | hk
   ·exact .inl hk
   ·exact .inr (by omega)
   ·exact .inr (by omega)) (fun hk=>by
   rcases hk with (hk | hk) | hk
   ·have:=Q _ hk;omega
   ·omega
   ·omega) HY.o (fun k hk=>by
   rcases hk with hk | hk
   ·have:=Q k hk;omega
   ·exact hk.2) (h.fresh aa.o) ⟨_,ai.o,.inr (by omega),.inr (by omega),H.o,fun hh=>absurd hh (by decide)⟩ V hN hT
  rw[<-D] at hm;rw[U];refine hm.mono ?_;rintro e w' ⟨rfl,Kd,k1,k2,E,k4,-⟩
  refine⟨rfl,k4.less (fun k hk=>k1 k (.inl hk)),(Qj.ofBelow aa.o).trans (E.mono (fun k hk V=>hk (.inl (.inl V)))) (fun _ _ h=>h),H.o.keep (E.block _ H.o.lt (fun hh=>hh (.inl (.inr rfl))))⟩)
 have m:Hid (Yp (s,d)=if f.2=0 then(({ f.1.1 with bases:=f.1.1.bases++[f.1.1.now] },f.1.2),0) else f):=ZZ (by rw[D];rfl)
 have ar:Hid (f.1.1.bases.length<=1000000):=ZZ (by rw[ae.2.1];exact ap)
 obtain⟨C,aq⟩:∃ C,C=Yp (s,d):=⟨_,rfl⟩;rw[<-aq] at m ⊢;have az:=ZZ Q;simp only [ZyF,ZeQ,Stp.val] at l;have an:=ZZ l;clear h V ap D ae aq Q HY ai H aa
 go_enter func24,ntmps24
 go_upto_region 2 with fail
 rw[<-q]
 have r0:j.cell? ⟨w.heap.size,0,none⟩=some (ptr p):=by
  have hb:Bk 28 j w.heap.size #[ptr p]:=by
   rw[q];exact(Below.heap_alloc _ _ _ (by simp)).trans (heap_alloc_new w _)
  exact(hb.cell 0 rfl).1
 clear q l U ay
 go_wp2_with fail
 rw[<-an.o];refine am.o.mono ?_;rintro e b ⟨rfl,ao,ak,ag⟩;have y:=ZZ ao;have x:=ZZ ak;have A:=ZZ ag;obtain⟨r2,-⟩:=ag.cell 0 rfl;clear an am ao ak ag r0;obtain⟨⟨s',d'⟩,c⟩:=f
 dsimp only at y m ar
 by_cases S:c=0
 case neg=>
  have O:Hid (Z6 K w pd p C (N+28) (T+560000) (.returned (.int .i64 c)) b):=ZZ (by
   rw[m.o,if_neg S]
   exact⟨rfl,y.o,x.o⟩)
  have aD:(c != 0)=true:=by rw[bne_iff_ne];exact S
  clear S m y x;go_wp2;go_ret;exact O.o
 subst S;rw[if_pos rfl] at m;obtain⟨F,M,I,L,g1,g,g3,g4,g5,g6,g7⟩:=y.o;have HL:=ZZ g;obtain⟨-,-,-,-,c4,⟨c5,c6,c7,c8,c9,av⟩,-⟩:=g.cs;obtain⟨ba,Z,G⟩:=Zg g.bases;obtain⟨u,t,lc,v,z,B,ab,X⟩:=g.now.shape;have ad:L.nl=.slice u t lc:=ab;have ac:L.nt=.slice v z B:=X;have aC:Hid (snC (L.nx s')=#[.int .i64 s'.now.idx,.int .i64 s'.now.st.kind,.slice u t lc,.bool s'.now.st.shut,.int .i64 s'.now.st.eng,.slice v z B]):=ZZ (by unfold snC ZdP.nx;rw[ad,ac])
 have aB:Hid (SlX (L.nx s')):=ZZ ⟨u,t,lc,v,z,B,ab,X⟩
 have ax:Hid (L.bs.length<=10000000):=ZZ (by
  have J:=ar.o;rw[<-g.bsEq,List.length_map] at J
  omega)
 have O:Hid (∀ v' W,W.ownsRow 0 41 6 v' (L.bs++[L.nx s']).length (Xh (L.bs++[L.nx s']))->(b.drew.alloc (.cells (snC (L.nx s')) 41)).grownBy W L.bv.ownBlock->(v'.ownBlock=L.bv.ownBlock∨v'.ownBlock=some (b.drew.heap.size+1))->
  Z6 K w pd p C (N+28) (T+560000) (.returned (.int .i64 0)) (W.setCell ⟨p,4,none⟩ v')∧W.cell? ⟨p,4,none⟩=some L.bv∧W.frozen? ⟨p,4,none⟩=false∧W.cell? ⟨w.heap.size,0,none⟩=some (ptr p)):=ZZ (fun v' W hr hg hv=>by
  have P:Below b.heap.size b b.drew:=(Below.refl _ _).drew;obtain⟨k1,k2,⟨E,k4⟩,k5⟩:=(g.below P).addBase hr hg hv;have au:∀ k,K k->k<b.drew.heap.size:=fun k hk=>Nat.lt_of_lt_of_le (az.o k hk) (Nat.le_trans x.o.size P.size)
  obtain⟨m1,m2⟩:=SD.own au (g1.below P) g3 g4 g5 g6 g7 k2 k1 (fun k hk=>by
   rcases hk with hk | hk
   ·exact .inl hk
   ·exact k5 k hk) (fun k hk=>.inl hk)
  refine⟨?_,E,k4,?_⟩
  ·rw[m.o]
   exact⟨rfl,m1,(x.o.trans (Qj.ofBelow (F:=fun _=>False) P) (fun _ _ h=>h.elim)).trans m2 (fun _ _ h=>h)⟩
  ·have h2:L.bv.ownBlock≠some w.heap.size:=fun e=>by
    obtain⟨cs,hb⟩:=Xm g.bases e;exact hb.ne A.o (by decide) rfl
   have h3:W.heap[w.heap.size]?=b.heap[w.heap.size]?:=by
    rw[hg.block _ (by simp;have:=A.o.lt;omega) (fun e=>h2 e.symm)]
    exact Below.heap_alloc b _ _ A.o.lt
   exact((A.o.keep h3).cell 0 rfl).1)
 rw[G] at c4;rw[ad] at c7;rw[ac] at av
 have aA:Hid (b.drew.ownsRow 0 41 6 (.slice ba L.bs.length Z) L.bs.length (Xh L.bs)):=ZZ (by
  have J:=(g.below (Below.refl _ b).drew).bases;rw[G] at J
  exact J)
 rw[G] at O;generalize s'.now.idx=n0 at *;generalize s'.now.st.kind=n1 at *;generalize s'.now.st.shut=n2 at *;generalize s'.now.st.eng=n3 at *;have q4:(b.alloc (.cells #[.int .i64 n0,.int .i64 n1,.slice u t lc,.bool n2,.int .i64 n3,.slice v z B] 41)).cell? ⟨p,4,none⟩=some (.slice ba L.bs.length Z):=(World.cell?_of_block (a:=⟨p,4,none⟩) (Below.heap_alloc b _ p (g.ltM p g.mh))).trans c4;have q0:(b.alloc (.cells #[.int .i64 n0,.int .i64 n1,.slice u t lc,.bool n2,.int .i64 n3,.slice v z B] 41)).cell? ⟨w.heap.size,0,none⟩=some (ptr p):=(World.cell?_of_block (a:=⟨w.heap.size,0,none⟩) (Below.heap_alloc b _ _ A.o.lt)).trans r2;clear g1 g g3 g4 g5 g6 g7 ab X ad ac G m y x HL
 go_upto_region 9 with fail
 go_region_law(refine Zjr (by rfl) _ _ (by rfl) (.slice ba L.bs.length Z) L.bs (by rfl) (L.nx s') b.drew (by rw[aC.o];rfl) aA.o aB.o (by rfl) ax.o ?_;intro v9 W9 af aj al;obtain⟨hA,t1,t2,t3⟩:=O.o v9 W9 af aj al;have aw:=ZZ hA;obtain⟨z1,z3,z2,hz⟩:∃ a n c,v9=Value.slice a n c:=(by obtain⟨a,c,h⟩:=Zg af;exact⟨_,_,_,h⟩);subst hz;clear hA af aj al)
 all_goals
  go_wp2;go_ret;exact aw.o
end Go.Proofs.YtnahjngbneicaaaGreatDoor
