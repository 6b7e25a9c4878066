import Derived.Test.YtnahjngbneicaaaGreatDoorPack15
namespace Go.Proofs.YtnahjngbneicaaaGreatDoor
open _root_.Go.Proofs.Tryz
set_option maxRecDepth 100000
open Go.RowKit
variable {w:World} {p pd:Nat} {s:Sto}
theorem ZjZ {d:Array Oper} {o:Oper} {a:Act} {K:Act->World->Prop} {Q:Exit->Act->World->Prop} {E:Prop}
 (m:o.guard=none) (s x:Operand) (n:o.op=Op.call { callee:=Callee.builtin Builtin.append,args:=#[s,x],argTypes:=#[74,74] })
 (v:Value) (l:List (Q0 × Value × Value)) (t:a.eval s=v) (c:Q0 × Value × Value) (b:World) (p:w=b.alloc (.cells (snC c) 41)) (h:b.ownsRow 0 41 6 v l.length (Xv l)) (k:SlX c) (u:a.eval x=.slice (some ⟨b.heap.size,0,none⟩) 1 1) (j:l.length<=10000000)
 (f:∀ v' w',w'.ownsRow 0 41 6 v' (l++[c]).length (Xv (l++[c]))->(b.alloc (.cells (snC c) 41)).grownBy w' v.ownBlock->(v'.ownBlock=v.ownBlock∨v'.ownBlock=some (b.heap.size+1))->K (a.put o.dst v') w'):
 if Region.wanted o (yielded d a.tmps)=true then Oper.wp prog o a w K Q else E:=by
 have q:Region.wanted o (yielded d a.tmps)=true:=by simp[Region.wanted,m]
 rw[if_pos q];subst p;obtain⟨v',w',y,g,i,e⟩:=ZeX b o.type v l h c k j;unfold Oper.wp execOp;simp only [n,resolve,invoke,builtin,Sem.run_bind,Sem.run_pure,Result.andThen_ok,List.map_toArray,List.map_cons,List.map_nil,t,u,y];exact f v' w' g i e
theorem Jq.addBase {M I:Nat->Prop} {W:World} {L:ZdU} {b:Value} (h:Jq M I w p pd L s) (l:W.ownsRow 0 41 6 b (L.bs++[L.nx s]).length (Xv (L.bs++[L.nx s]))) (a:(w.alloc (.cells (snC (L.nx s)) 41)).grownBy W L.bv.ownBlock) (hv:b.ownBlock=L.bv.ownBlock∨b.ownBlock=some (w.heap.size+1)):
 Jq (fun k=>M k∨b.ownBlock=some k) I (W.setCell ⟨p,4,none⟩ b) p pd { L with bv:=b,bs:=L.bs++[L.nx s] } { s with bases:=s.bases++[s.now] }∧Ql M w (W.setCell ⟨p,4,none⟩ b)∧(W.cell? ⟨p,4,none⟩=some L.bv∧W.frozen? ⟨p,4,none⟩=false)∧∀ k,b.ownBlock=some k->M k∨w.heap.size<=k:=by
 have y:∀ g,L.bv.ownBlock=some g->g≠p:=fun g a e=>by
  obtain⟨cs,c⟩:=X0 h.bases a;rw[e] at c;exact c.ne h.head (by decide) rfl
 have u:(w.alloc (.cells (snC (L.nx s)) 41)).heap.size=w.heap.size+1:=by simp
 have z:∀ k,k<w.heap.size->L.bv.ownBlock≠some k->W.heap[k]?=w.heap[k]?:=fun k hk j=>by
  rw[a.block k (by rw[u];omega) (fun e=>j e.symm)]
  exact Below.heap_alloc _ _ _ (by omega)
 have P:w.heap.size+1<=W.heap.size:=by have:=a.size;rw[u] at this;exact this
 have B:∀ k,b.ownBlock=some k->M k∨w.heap.size<=k:=fun k hk=>by
  rcases hv with hv | hv
  ·exact .inl (h.mb k (by rw[<-hv];exact hk))
  ·rw[hv] at hk
   have:=Option.some.inj hk;exact .inr (by omega)
 have J:W.heap[p]?=w.heap[p]?:=z p (h.ltM p h.mh) (fun e=>y p e rfl)
 have f:=h.head.keep J;have q:∀ k,k≠p->(W.setCell ⟨p,4,none⟩ b).heap[k]?=W.heap[k]?:=fun k hk=>Below.heap_setCell _ _ _ _ hk
 have C:(W.setCell ⟨p,4,none⟩ b).heap.size=W.heap.size:=ZqD _ _ _ _;have A:∀ k,k<w.heap.size->k≠p->L.bv.ownBlock≠some k->(W.setCell ⟨p,4,none⟩ b).heap[k]?=w.heap[k]?:=fun k h1 F G=>by rw[q k F,z k h1 G]
 have i:∀ k,I k->(W.setCell ⟨p,4,none⟩ b).heap[k]?=w.heap[k]?:=fun k hk=>A k (h.ltI k hk) (fun e=>h.dis p h.mh (by rw[<-e];exact hk)) (fun e=>h.dis k (h.mb k e) hk)
 have E:∀ k,b.ownBlock=some k->k≠p:=fun k hk e=>by
  rcases hv with hv | hv
  ·exact y k (by rw[<-hv];exact hk) e
  ·rw[hv] at hk
   have:=Option.some.inj hk;have:=h.ltM p h.mh;omega
 have m:∀ {t:TypeId} {v:Value} {n sz:Nat} {xs:List Value},w.ownsRow 0 t sz v n xs->t≠76->t≠41->(W.setCell ⟨p,4,none⟩ b).ownsRow 0 t sz v n xs:=fun D N O=>Qh D fun g a=>by
  obtain⟨cs,c⟩:=X0 D a;refine A g c.lt (c.ne h.head N) (fun e=>?_)
  obtain⟨Q,K⟩:=X0 h.bases e;exact c.ne K O rfl
 refine⟨⟨f.set 4 b,m h.recs (by decide) (by decide),m h.pcs (by decide) (by decide),Qh l fun g a=>q g (E g a),?_,h.now.keep h.inow i,fun x hx=>?_,.inl h.mh,fun g a=>.inl (h.mr g a),fun g a=>.inl (h.mp g a),fun g a=>.inr a,h.inow,fun x hx=>?_,fun k hk=>?_,fun k hk=>?_,fun k hk d=>?_⟩,?_,⟨(f.cell 4 rfl).1,(f.cell 4 rfl).2⟩,B⟩
 ·rw[List.map_append,h.bsEq];rfl
 ·rcases List.mem_append.1 hx with hx | hx
  ·exact(h.base x hx).keep (h.ibase x hx) i
  ·rw[List.mem_singleton.1 hx];exact h.now.keep h.inow i
 ·rcases List.mem_append.1 hx with hx | hx
  ·exact h.ibase x hx
  ·rw[List.mem_singleton.1 hx];exact h.inow
 ·rw[C]
  rcases hk with hk | hk
  ·have:=h.ltM k hk;omega
  ·exact(World.ownsRow.lt l k hk).2
 ·rw[C]
  have:=h.ltI k hk;omega
 ·rcases hk with hk | hk
  ·exact h.dis k hk d
  ·rcases B k hk with h1 | h1
   ·exact h.dis k h1 d
   ·have:=h.ltI k d
    omega
 ·have H:Ql M w (w.alloc (.cells (snC (L.nx s)) 41)):=Ql.ofBelow (Jw _ _)
  have c:Ql M (w.alloc (.cells (snC (L.nx s)) 41)) W:=⟨a.os,a.tape,a.output,a.size,fun k hk j=>a.block k hk (fun e=>j (h.mb k e.symm))⟩
  exact((H.trans c (fun _ _ h=>h)).trans (((Ql.refl M W).setCell 4 (fun _=>h.mh) b)) (fun _ _ h=>h))
set_option maxHeartbeats 4000000 in
theorem Zjl {K:Nat->Prop} {d:Dk} {N T:Nat} (w:World) (h:SD K w pd p s d N T) (H:∀ k,K k->k<w.heap.size) (Q:ZpE s) (an:s.bases.length<=1000000) (hN:N<=900000) (hT:T<=90000000):
 Calls prog 24 #[ptr p] w fun e w'=>Jz K w pd p (Xp (s,d)) (N+28) (T+560000) e w':=by
 obtain⟨j,m⟩:∃ j,j=(w.alloc (.cells #[ptr p] 28)).alloc (.cells #[.slice none 0 0] 53):=⟨_,rfl⟩;have J:j.heap.size=w.heap.size+2:=by rw[m];simp
 obtain⟨i,l⟩:∃ i,i=j.alloc (.cells (ZzT p w.heap.size (w.heap.size+1)) 153):=⟨_,rfl⟩;have av:i.heap.size=w.heap.size+3:=by rw[l];simp[J]
 have X:Hid (Below w.heap.size w i):=ZZ (by rw[l,m];exact(((Below.refl _ _).alloc zL _).alloc (by simp) _).alloc (by simp;omega) _)
 have D:Hid (Bk 28 i w.heap.size #[ptr p]):=ZZ (by
  rw[l,m]
  exact(Below.heap_alloc _ _ _ (by simp;omega)).trans ((Below.heap_alloc _ _ _ (by simp)).trans (heap_alloc_new w _)))
 have aq:Hid (Bk 53 i (w.heap.size+1) #[.slice none 0 0]):=ZZ (by
  rw[l,m]
  exact(Below.heap_alloc _ _ _ (by simp)).trans (ZdR w _ _))
 have HY:Hid (Bk 153 i (w.heap.size+2) (ZzT p w.heap.size (w.heap.size+1))):=ZZ (by
  rw[l,<-J]
  exact heap_alloc_new j _)
 obtain⟨f,U⟩:∃ f,f=J5 (s,d):=⟨_,rfl⟩;have ab:=Zfa (s,d);rw[<-U] at ab
 have ao:Hid (Calls prog 62 #[.slice (some ⟨j.heap.size,0,none⟩) 7 7] i fun e w'=>e=.returned (.int .i64 f.2)∧SD K w' pd p f.1.1 f.1.2 (N+28) (T+560000)∧Ql (fun k=>¬ K k) w w'∧Bk 28 w' w.heap.size #[ptr p]):=ZZ (by
  have hm:=ZxJ (K0:=fun k=>(K k∨k=w.heap.size)∨k=w.heap.size+2) (K2:=fun k=>K k∨(w.heap.size<=k∧k<i.heap.size)) (R:=w.heap.size) (Rb:=w.heap.size+1) (Y:=w.heap.size+2) i (.inr rfl) (fun k hk=>by
   rcases hk with (hk | hk) | hk
   ·exact .inl hk
   ·exact .inr (by omega)
   ·exact .inr (by omega)) (fun hk=>by
   rcases hk with (hk | hk) | hk
   ·have:=H _ hk;omega
   ·omega
   ·omega) HY.o (fun k hk=>by
   rcases hk with hk | hk
   ·have:=H k hk;omega
   ·exact hk.2) (h.fresh X.o) ⟨_,aq.o,.inr (by omega),.inr (by omega),D.o,fun hh=>absurd hh (by decide)⟩ Q hN hT
  rw[<-U] at hm;rw[J];refine hm.mono ?_;rintro e w' ⟨rfl,Kd,k1,k2,S,k4,-⟩
  refine⟨rfl,k4.less (fun k hk=>k1 k (.inl hk)),(Ql.ofBelow X.o).trans (S.mono (fun k hk Q=>hk (.inl (.inl Q)))) (fun _ _ h=>h),D.o.keep (S.block _ D.o.lt (fun hh=>hh (.inl (.inr rfl))))⟩)
 have q:Hid (Xp (s,d)=if f.2=0 then(({ f.1.1 with bases:=f.1.1.bases++[f.1.1.now] },f.1.2),0) else f):=ZZ (by rw[U];rfl)
 have ak:Hid (f.1.1.bases.length<=1000000):=ZZ (by rw[ab.2.1];exact an)
 obtain⟨P,ap⟩:∃ P,P=Xp (s,d):=⟨_,rfl⟩;rw[<-ap] at q ⊢;have ax:=ZZ H;simp only [ZzT,Zfb,Stp.val] at l;have aj:=ZZ l;clear h Q an U ab ap H HY aq D X
 go_enter func24,ntmps24
 go_upto_region 2 with fail
 rw[<-m]
 have r0:j.cell? ⟨w.heap.size,0,none⟩=some (ptr p):=by
  have hb:Bk 28 j w.heap.size #[ptr p]:=by
   rw[m];exact(Below.heap_alloc _ _ _ (by simp)).trans (heap_alloc_new w _)
  exact(hb.cell 0 rfl).1
 clear m l J av
 go_wp2_with fail
 rw[<-aj.o];refine ao.o.mono ?_;rintro e b ⟨rfl,am,ag,ad⟩;have t:=ZZ am;have y:=ZZ ag;have z:=ZZ ad;obtain⟨r2,-⟩:=ad.cell 0 rfl;clear aj ao am ag ad r0;obtain⟨⟨s',d'⟩,c⟩:=f
 dsimp only at t q ak
 by_cases C:c=0
 case neg=>
  have O:Hid (Jz K w pd p P (N+28) (T+560000) (.returned (.int .i64 c)) b):=ZZ (by
   rw[q.o,if_neg C]
   exact⟨rfl,t.o,y.o⟩)
  have aC:(c != 0)=true:=by rw[bne_iff_ne];exact C
  clear C q t y;go_wp2;go_ret;exact O.o
 subst C;rw[if_pos rfl] at q;obtain⟨F,M,I,L,g1,g,g3,g4,g5,g6,g7⟩:=t.o;have HL:=ZZ g;obtain⟨-,-,-,-,c4,⟨c5,c6,c7,c8,c9,az⟩,-⟩:=g.cs;obtain⟨ba,bc,V⟩:=Z8 g.bases;obtain⟨u,v,lc,x,B,A,ac,af⟩:=g.now.shape;have ae:L.nl=.slice u v lc:=ac;have Z:L.nt=.slice x B A:=af;have aw:Hid (snC (L.nx s')=#[.int .i64 s'.now.idx,.int .i64 s'.now.st.kind,.slice u v lc,.bool s'.now.st.shut,.int .i64 s'.now.st.eng,.slice x B A]):=ZZ (by unfold snC ZdU.nx;rw[ae,Z])
 have aB:Hid (SlX (L.nx s')):=ZZ ⟨u,v,lc,x,B,A,ac,af⟩
 have aA:Hid (L.bs.length<=10000000):=ZZ (by
  have G:=ak.o;rw[<-g.bsEq,List.length_map] at G
  omega)
 have O:Hid (∀ v' W,W.ownsRow 0 41 6 v' (L.bs++[L.nx s']).length (Xv (L.bs++[L.nx s']))->(b.drew.alloc (.cells (snC (L.nx s')) 41)).grownBy W L.bv.ownBlock->(v'.ownBlock=L.bv.ownBlock∨v'.ownBlock=some (b.drew.heap.size+1))->
  Jz K w pd p P (N+28) (T+560000) (.returned (.int .i64 0)) (W.setCell ⟨p,4,none⟩ v')∧W.cell? ⟨p,4,none⟩=some L.bv∧W.frozen? ⟨p,4,none⟩=false∧W.cell? ⟨w.heap.size,0,none⟩=some (ptr p)):=ZZ (fun v' W hr hg hv=>by
  have E:Below b.heap.size b b.drew:=(Below.refl _ _).drew;obtain⟨k1,k2,⟨S,k4⟩,k5⟩:=(g.below E).addBase hr hg hv;have au:∀ k,K k->k<b.drew.heap.size:=fun k hk=>Nat.lt_of_lt_of_le (ax.o k hk) (Nat.le_trans y.o.size E.size)
  obtain⟨m1,m2⟩:=SD.own au (g1.below E) g3 g4 g5 g6 g7 k2 k1 (fun k hk=>by
   rcases hk with hk | hk
   ·exact .inl hk
   ·exact k5 k hk) (fun k hk=>.inl hk)
  refine⟨?_,S,k4,?_⟩
  ·rw[q.o]
   exact⟨rfl,m1,(y.o.trans (Ql.ofBelow (F:=fun _=>False) E) (fun _ _ h=>h.elim)).trans m2 (fun _ _ h=>h)⟩
  ·have h2:L.bv.ownBlock≠some w.heap.size:=fun e=>by
    obtain⟨cs,hb⟩:=X0 g.bases e;exact hb.ne z.o (by decide) rfl
   have h3:W.heap[w.heap.size]?=b.heap[w.heap.size]?:=by
    rw[hg.block _ (by simp;have:=z.o.lt;omega) (fun e=>h2 e.symm)]
    exact Below.heap_alloc b _ _ z.o.lt
   exact((z.o.keep h3).cell 0 rfl).1)
 rw[V] at c4;rw[ae] at c7;rw[Z] at az
 have ar:Hid (b.drew.ownsRow 0 41 6 (.slice ba L.bs.length bc) L.bs.length (Xv L.bs)):=ZZ (by
  have G:=(g.below (Below.refl _ b).drew).bases;rw[V] at G
  exact G)
 rw[V] at O;generalize s'.now.idx=n0 at *;generalize s'.now.st.kind=n1 at *;generalize s'.now.st.shut=n2 at *;generalize s'.now.st.eng=n3 at *;have q4:(b.alloc (.cells #[.int .i64 n0,.int .i64 n1,.slice u v lc,.bool n2,.int .i64 n3,.slice x B A] 41)).cell? ⟨p,4,none⟩=some (.slice ba L.bs.length bc):=(World.cell?_of_block (a:=⟨p,4,none⟩) (Below.heap_alloc b _ p (g.ltM p g.mh))).trans c4;have q0:(b.alloc (.cells #[.int .i64 n0,.int .i64 n1,.slice u v lc,.bool n2,.int .i64 n3,.slice x B A] 41)).cell? ⟨w.heap.size,0,none⟩=some (ptr p):=(World.cell?_of_block (a:=⟨w.heap.size,0,none⟩) (Below.heap_alloc b _ _ z.o.lt)).trans r2;clear g1 g g3 g4 g5 g6 g7 ac af ae Z V q t y HL
 go_upto_region 9 with fail
 go_region_law(refine ZjZ (by rfl) _ _ (by rfl) (.slice ba L.bs.length bc) L.bs (by rfl) (L.nx s') b.drew (by rw[aw.o];rfl) ar.o aB.o (by rfl) aA.o ?_;intro v9 W9 aa al ai;obtain⟨hA,t1,t2,t3⟩:=O.o v9 W9 aa al ai;have ay:=ZZ hA;obtain⟨z1,z3,z2,hz⟩:∃ a n c,v9=Value.slice a n c:=(by obtain⟨a,c,h⟩:=Z8 aa;exact⟨_,_,_,h⟩);subst hz;clear hA aa al ai)
 all_goals
  go_wp2;go_ret;exact ay.o
end Go.Proofs.YtnahjngbneicaaaGreatDoor
