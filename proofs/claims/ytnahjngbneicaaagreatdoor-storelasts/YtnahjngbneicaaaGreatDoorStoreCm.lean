import Derived.Test.YtnahjngbneicaaaGreatDoorPack15
namespace Go.Proofs.YtnahjngbneicaaaGreatDoor
open _root_.Go.Proofs.Tryz
set_option maxRecDepth 100000
open Go.RowKit
variable {w:World} {p pd:Nat} {s:Sto}
theorem ZjZ {d:Array Oper} {o:Oper} {a:Act} {K:Act->World->Prop} {Q:Exit->Act->World->Prop} {E:Prop}
 (t:o.guard=none) (s x:Operand) (f:o.op=Op.call { callee:=Callee.builtin Builtin.append,args:=#[s,x],argTypes:=#[74,74] })
 (v:Value) (l:List (Q0 × Value × Value)) (j:a.eval s=v) (c:Q0 × Value × Value) (b:World) (u:w=b.alloc (.cells (snC c) 41)) (h:b.ownsRow 0 41 6 v l.length (Xv l)) (y:SlX c) (e:a.eval x=.slice (some ⟨b.heap.size,0,none⟩) 1 1) (k:l.length<=10000000)
 (i:∀ v' w',w'.ownsRow 0 41 6 v' (l++[c]).length (Xv (l++[c]))->(b.alloc (.cells (snC c) 41)).grownBy w' v.ownBlock->(v'.ownBlock=v.ownBlock∨v'.ownBlock=some (b.heap.size+1))->K (a.put o.dst v') w'):
 if Region.wanted o (yielded d a.tmps)=true then Oper.wp prog o a w K Q else E:=by
 have g:Region.wanted o (yielded d a.tmps)=true:=by simp[Region.wanted,t]
 rw[if_pos g];subst u;obtain⟨v',w',q,m,n,p⟩:=ZeX b o.type v l h c y k;unfold Oper.wp execOp;simp only [f,resolve,invoke,builtin,Sem.run_bind,Sem.run_pure,Result.andThen_ok,List.map_toArray,List.map_cons,List.map_nil,j,e,q];exact i v' w' m n p
theorem Jq.addBase {M I:Nat->Prop} {W:World} {L:ZdU} {b:Value} (h:Jq M I w p pd L s) (u:W.ownsRow 0 41 6 b (L.bs++[L.nx s]).length (Xv (L.bs++[L.nx s]))) (a:(w.alloc (.cells (snC (L.nx s)) 41)).grownBy W L.bv.ownBlock) (hv:b.ownBlock=L.bv.ownBlock∨b.ownBlock=some (w.heap.size+1)):
 Jq (fun k=>M k∨b.ownBlock=some k) I (W.setCell ⟨p,4,none⟩ b) p pd { L with bv:=b,bs:=L.bs++[L.nx s] } { s with bases:=s.bases++[s.now] }∧Ql M w (W.setCell ⟨p,4,none⟩ b)∧(W.cell? ⟨p,4,none⟩=some L.bv∧W.frozen? ⟨p,4,none⟩=false)∧∀ k,b.ownBlock=some k->M k∨w.heap.size<=k:=by
 have D:∀ g,L.bv.ownBlock=some g->g≠p:=fun g a e=>by
  obtain⟨cs,c⟩:=X0 h.bases a;rw[e] at c;exact c.ne h.head (by decide) rfl
 have m:(w.alloc (.cells (snC (L.nx s)) 41)).heap.size=w.heap.size+1:=by simp
 have A:∀ k,k<w.heap.size->L.bv.ownBlock≠some k->W.heap[k]?=w.heap[k]?:=fun k hk j=>by
  rw[a.block k (by rw[m];omega) (fun e=>j e.symm)]
  exact Below.heap_alloc _ _ _ (by omega)
 have Q:w.heap.size+1<=W.heap.size:=by have:=a.size;rw[m] at this;exact this
 have q:∀ k,b.ownBlock=some k->M k∨w.heap.size<=k:=fun k hk=>by
  rcases hv with hv | hv
  ·exact .inl (h.mb k (by rw[<-hv];exact hk))
  ·rw[hv] at hk
   have:=Option.some.inj hk;exact .inr (by omega)
 have O:W.heap[p]?=w.heap[p]?:=A p (h.ltM p h.mh) (fun e=>D p e rfl)
 have f:=h.head.keep O;have y:∀ k,k≠p->(W.setCell ⟨p,4,none⟩ b).heap[k]?=W.heap[k]?:=fun k hk=>Below.heap_setCell _ _ _ _ hk
 have C:(W.setCell ⟨p,4,none⟩ b).heap.size=W.heap.size:=ZqD _ _ _ _;have B:∀ k,k<w.heap.size->k≠p->L.bv.ownBlock≠some k->(W.setCell ⟨p,4,none⟩ b).heap[k]?=w.heap[k]?:=fun k h1 F G=>by rw[y k F,A k h1 G]
 have i:∀ k,I k->(W.setCell ⟨p,4,none⟩ b).heap[k]?=w.heap[k]?:=fun k hk=>B k (h.ltI k hk) (fun e=>h.dis p h.mh (by rw[<-e];exact hk)) (fun e=>h.dis k (h.mb k e) hk)
 have H:∀ k,b.ownBlock=some k->k≠p:=fun k hk e=>by
  rcases hv with hv | hv
  ·exact D k (by rw[<-hv];exact hk) e
  ·rw[hv] at hk
   have:=Option.some.inj hk;have:=h.ltM p h.mh;omega
 have z:∀ {t:TypeId} {v:Value} {n sz:Nat} {xs:List Value},w.ownsRow 0 t sz v n xs->t≠76->t≠41->(W.setCell ⟨p,4,none⟩ b).ownsRow 0 t sz v n xs:=fun l K J=>Qh l fun g a=>by
  obtain⟨cs,c⟩:=X0 l a;refine B g c.lt (c.ne h.head K) (fun e=>?_)
  obtain⟨P,E⟩:=X0 h.bases e;exact c.ne E J rfl
 refine⟨⟨f.set 4 b,z h.recs (by decide) (by decide),z h.pcs (by decide) (by decide),Qh u fun g a=>y g (H g a),?_,h.now.keep h.inow i,fun x hx=>?_,.inl h.mh,fun g a=>.inl (h.mr g a),fun g a=>.inl (h.mp g a),fun g a=>.inr a,h.inow,fun x hx=>?_,fun k hk=>?_,fun k hk=>?_,fun k hk d=>?_⟩,?_,⟨(f.cell 4 rfl).1,(f.cell 4 rfl).2⟩,q⟩
 ·rw[List.map_append,h.bsEq];rfl
 ·rcases List.mem_append.1 hx with hx | hx
  ·exact(h.base x hx).keep (h.ibase x hx) i
  ·rw[List.mem_singleton.1 hx];exact h.now.keep h.inow i
 ·rcases List.mem_append.1 hx with hx | hx
  ·exact h.ibase x hx
  ·rw[List.mem_singleton.1 hx];exact h.inow
 ·rw[C]
  rcases hk with hk | hk
  ·have:=h.ltM k hk;omega
  ·exact(World.ownsRow.lt u k hk).2
 ·rw[C]
  have:=h.ltI k hk;omega
 ·rcases hk with hk | hk
  ·exact h.dis k hk d
  ·rcases q k hk with h1 | h1
   ·exact h.dis k h1 d
   ·have:=h.ltI k d
    omega
 ·have N:Ql M w (w.alloc (.cells (snC (L.nx s)) 41)):=Ql.ofBelow (Jw _ _)
  have c:Ql M (w.alloc (.cells (snC (L.nx s)) 41)) W:=⟨a.os,a.tape,a.output,a.size,fun k hk j=>a.block k hk (fun e=>j (h.mb k e.symm))⟩
  exact((N.trans c (fun _ _ h=>h)).trans (((Ql.refl M W).setCell 4 (fun _=>h.mh) b)) (fun _ _ h=>h))
set_option maxHeartbeats 4000000 in
theorem Zjl {K:Nat->Prop} {d:Dk} {N T:Nat} (w:World) (h:SD K w pd p s d N T) (G:∀ k,K k->k<w.heap.size) (V:ZpE s) (ao:s.bases.length<=1000000) (hN:N<=900000) (hT:T<=90000000):
 Calls prog 24 #[ptr p] w fun e w'=>Jz K w pd p (Xp (s,d)) (N+28) (T+560000) e w':=by
 obtain⟨j,q⟩:∃ j,j=(w.alloc (.cells #[ptr p] 28)).alloc (.cells #[.slice none 0 0] 53):=⟨_,rfl⟩;have U:j.heap.size=w.heap.size+2:=by rw[q];simp
 obtain⟨i,l⟩:∃ i,i=j.alloc (.cells (ZzT p w.heap.size (w.heap.size+1)) 153):=⟨_,rfl⟩;have aw:i.heap.size=w.heap.size+3:=by rw[l];simp[U]
 have ae:Hid (Below w.heap.size w i):=ZZ (by rw[l,q];exact(((Below.refl _ _).alloc zL _).alloc (by simp) _).alloc (by simp;omega) _)
 have O:Hid (Bk 28 i w.heap.size #[ptr p]):=ZZ (by
  rw[l,q]
  exact(Below.heap_alloc _ _ _ (by simp;omega)).trans ((Below.heap_alloc _ _ _ (by simp)).trans (heap_alloc_new w _)))
 have aj:Hid (Bk 53 i (w.heap.size+1) #[.slice none 0 0]):=ZZ (by
  rw[l,q]
  exact(Below.heap_alloc _ _ _ (by simp)).trans (ZdR w _ _))
 have HY:Hid (Bk 153 i (w.heap.size+2) (ZzT p w.heap.size (w.heap.size+1))):=ZZ (by
  rw[l,<-U]
  exact heap_alloc_new j _)
 obtain⟨f,C⟩:∃ f,f=J5 (s,d):=⟨_,rfl⟩;have aa:=Zfa (s,d);rw[<-C] at aa
 have ai:Hid (Calls prog 62 #[.slice (some ⟨j.heap.size,0,none⟩) 7 7] i fun e w'=>e=.returned (.int .i64 f.2)∧SD K w' pd p f.1.1 f.1.2 (N+28) (T+560000)∧Ql (fun k=>¬ K k) w w'∧Bk 28 w' w.heap.size #[ptr p]):=ZZ (by
  have hm:=ZxJ (K0:=fun k=>(K k∨k=w.heap.size)∨k=w.heap.size+2) (K2:=fun k=>K k∨(w.heap.size<=k∧k<i.heap.size)) (R:=w.heap.size) (Rb:=w.heap.size+1) (Y:=w.heap.size+2) i (.inr rfl) (fun k hk=>by
   rcases hk with (hk | hk) | hk
   ·exact .inl hk
   ·exact .inr (by omega)
   ·exact .inr (by omega)) (fun hk=>by
   rcases hk with (hk | hk) | hk
   ·have:=G _ hk;omega
   ·omega
   ·omega) HY.o (fun k hk=>by
   rcases hk with hk | hk
   ·have:=G k hk;omega
   ·exact hk.2) (h.fresh ae.o) ⟨_,aj.o,.inr (by omega),.inr (by omega),O.o,fun hh=>absurd hh (by decide)⟩ V hN hT
  rw[<-C] at hm;rw[U];refine hm.mono ?_;rintro e w' ⟨rfl,Kd,k1,k2,D,k4,-⟩
  refine⟨rfl,k4.less (fun k hk=>k1 k (.inl hk)),(Ql.ofBelow ae.o).trans (D.mono (fun k hk V=>hk (.inl (.inl V)))) (fun _ _ h=>h),O.o.keep (D.block _ O.o.lt (fun hh=>hh (.inl (.inr rfl))))⟩)
 have m:Hid (Xp (s,d)=if f.2=0 then(({ f.1.1 with bases:=f.1.1.bases++[f.1.1.now] },f.1.2),0) else f):=ZZ (by rw[C];rfl)
 have al:Hid (f.1.1.bases.length<=1000000):=ZZ (by rw[aa.2.1];exact ao)
 obtain⟨S,ak⟩:∃ S,S=Xp (s,d):=⟨_,rfl⟩;rw[<-ak] at m ⊢;have ay:=ZZ G;simp only [ZzT,Zfb,Stp.val] at l;have aq:=ZZ l;clear h V ao C aa ak G HY aj O ae
 go_enter func24,ntmps24
 go_upto_region 2 with fail
 rw[<-q]
 have r0:j.cell? ⟨w.heap.size,0,none⟩=some (ptr p):=by
  have hb:Bk 28 j w.heap.size #[ptr p]:=by
   rw[q];exact(Below.heap_alloc _ _ _ (by simp)).trans (heap_alloc_new w _)
  exact(hb.cell 0 rfl).1
 clear q l U aw
 go_wp2_with fail
 rw[<-aq.o];refine ai.o.mono ?_;rintro e b ⟨rfl,am,ap,ag⟩;have A:=ZZ am;have y:=ZZ ap;have x:=ZZ ag;obtain⟨r2,-⟩:=ag.cell 0 rfl;clear aq ai am ap ag r0;obtain⟨⟨s',d'⟩,c⟩:=f
 dsimp only at A m al
 by_cases Q:c=0
 case neg=>
  have H:Hid (Jz K w pd p S (N+28) (T+560000) (.returned (.int .i64 c)) b):=ZZ (by
   rw[m.o,if_neg Q]
   exact⟨rfl,A.o,y.o⟩)
  have aC:(c != 0)=true:=by rw[bne_iff_ne];exact Q
  clear Q m A y;go_wp2;go_ret;exact H.o
 subst Q;rw[if_pos rfl] at m;obtain⟨F,M,I,L,g1,g,g3,g4,g5,g6,g7⟩:=A.o;have HL:=ZZ g;obtain⟨-,-,-,-,c4,⟨c5,c6,c7,c8,c9,aA⟩,-⟩:=g.cs;obtain⟨Z,bc,J⟩:=Z8 g.bases;obtain⟨z,t,lc,u,B,v,af,ad⟩:=g.now.shape;have ab:L.nl=.slice z t lc:=af;have ac:L.nt=.slice u B v:=ad;have ar:Hid (snC (L.nx s')=#[.int .i64 s'.now.idx,.int .i64 s'.now.st.kind,.slice z t lc,.bool s'.now.st.shut,.int .i64 s'.now.st.eng,.slice u B v]):=ZZ (by unfold snC ZdU.nx;rw[ab,ac])
 have av:Hid (SlX (L.nx s')):=ZZ ⟨z,t,lc,u,B,v,af,ad⟩
 have aB:Hid (L.bs.length<=10000000):=ZZ (by
  have E:=al.o;rw[<-g.bsEq,List.length_map] at E
  omega)
 have H:Hid (∀ v' W,W.ownsRow 0 41 6 v' (L.bs++[L.nx s']).length (Xv (L.bs++[L.nx s']))->(b.drew.alloc (.cells (snC (L.nx s')) 41)).grownBy W L.bv.ownBlock->(v'.ownBlock=L.bv.ownBlock∨v'.ownBlock=some (b.drew.heap.size+1))->
  Jz K w pd p S (N+28) (T+560000) (.returned (.int .i64 0)) (W.setCell ⟨p,4,none⟩ v')∧W.cell? ⟨p,4,none⟩=some L.bv∧W.frozen? ⟨p,4,none⟩=false∧W.cell? ⟨w.heap.size,0,none⟩=some (ptr p)):=ZZ (fun v' W hr hg hv=>by
  have P:Below b.heap.size b b.drew:=(Below.refl _ _).drew;obtain⟨k1,k2,⟨D,k4⟩,k5⟩:=(g.below P).addBase hr hg hv;have au:∀ k,K k->k<b.drew.heap.size:=fun k hk=>Nat.lt_of_lt_of_le (ay.o k hk) (Nat.le_trans y.o.size P.size)
  obtain⟨m1,m2⟩:=SD.own au (g1.below P) g3 g4 g5 g6 g7 k2 k1 (fun k hk=>by
   rcases hk with hk | hk
   ·exact .inl hk
   ·exact k5 k hk) (fun k hk=>.inl hk)
  refine⟨?_,D,k4,?_⟩
  ·rw[m.o]
   exact⟨rfl,m1,(y.o.trans (Ql.ofBelow (F:=fun _=>False) P) (fun _ _ h=>h.elim)).trans m2 (fun _ _ h=>h)⟩
  ·have h2:L.bv.ownBlock≠some w.heap.size:=fun e=>by
    obtain⟨cs,hb⟩:=X0 g.bases e;exact hb.ne x.o (by decide) rfl
   have h3:W.heap[w.heap.size]?=b.heap[w.heap.size]?:=by
    rw[hg.block _ (by simp;have:=x.o.lt;omega) (fun e=>h2 e.symm)]
    exact Below.heap_alloc b _ _ x.o.lt
   exact((x.o.keep h3).cell 0 rfl).1)
 rw[J] at c4;rw[ab] at c7;rw[ac] at aA
 have ax:Hid (b.drew.ownsRow 0 41 6 (.slice Z L.bs.length bc) L.bs.length (Xv L.bs)):=ZZ (by
  have E:=(g.below (Below.refl _ b).drew).bases;rw[J] at E
  exact E)
 rw[J] at H;generalize s'.now.idx=n0 at *;generalize s'.now.st.kind=n1 at *;generalize s'.now.st.shut=n2 at *;generalize s'.now.st.eng=n3 at *;have q4:(b.alloc (.cells #[.int .i64 n0,.int .i64 n1,.slice z t lc,.bool n2,.int .i64 n3,.slice u B v] 41)).cell? ⟨p,4,none⟩=some (.slice Z L.bs.length bc):=(World.cell?_of_block (a:=⟨p,4,none⟩) (Below.heap_alloc b _ p (g.ltM p g.mh))).trans c4;have q0:(b.alloc (.cells #[.int .i64 n0,.int .i64 n1,.slice z t lc,.bool n2,.int .i64 n3,.slice u B v] 41)).cell? ⟨w.heap.size,0,none⟩=some (ptr p):=(World.cell?_of_block (a:=⟨w.heap.size,0,none⟩) (Below.heap_alloc b _ _ x.o.lt)).trans r2;clear g1 g g3 g4 g5 g6 g7 af ad ab ac J m A y HL
 go_upto_region 9 with fail
 go_region_law(refine ZjZ (by rfl) _ _ (by rfl) (.slice Z L.bs.length bc) L.bs (by rfl) (L.nx s') b.drew (by rw[ar.o];rfl) ax.o av.o (by rfl) aB.o ?_;intro v9 W9 X ah an;obtain⟨hA,t1,t2,t3⟩:=H.o v9 W9 X ah an;have az:=ZZ hA;obtain⟨z1,z3,z2,hz⟩:∃ a n c,v9=Value.slice a n c:=(by obtain⟨a,c,h⟩:=Z8 X;exact⟨_,_,_,h⟩);subst hz;clear hA X ah an)
 all_goals
  go_wp2;go_ret;exact az.o
end Go.Proofs.YtnahjngbneicaaaGreatDoor
