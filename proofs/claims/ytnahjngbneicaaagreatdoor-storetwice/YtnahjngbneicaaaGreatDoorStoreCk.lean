import Derived.Test.YtnahjngbneicaaaGreatDoorStoreT
namespace Go.Proofs.YtnahjngbneicaaaGreatDoor
open _root_.Go.Proofs.Tryz
set_option maxHeartbeats 1000000
set_option maxRecDepth 100000
open Go.RowKit
variable {K K0:Nat->Prop} {N R Rb T p pd:Nat} {w':World} {v:Value} {s:Sto} {d:Dk}
theorem ZgJ:∀ (a b:List (SDk->SDk × Int)) (x:SDk),Q3 (a++b) x=if(Q3 a x).2=0 then Q3 b (Q3 a x).1 else Q3 a x
 | [],b,x=>by simp[Q3]
 | f::a,b,x=>by
  rw[List.cons_append,Q3,Q3];by_cases h:(f x).2=0
  ·rw[if_pos h,if_pos h]
   exact ZgJ a b _
  ·rw[if_neg h,if_neg h,if_neg h]
def ZdT (y:SDk):SDk × Int:=(y,0)
theorem Zqp (g:SDk->SDk × Int) (y:SDk):(Q3 [g] y).1=(g y).1∧(Q3 [g] y).2=(g y).2:=by
 unfold Q3;split
 ·rename_i h
  exact⟨rfl,h.symm⟩
 ·exact⟨rfl,rfl⟩
theorem Zqq {α:Type} {l:List α} {i:Nat} (a:i<l.length) (z:α):l.take (i+1)=l.take i++[l.getD i z]:=by
 rw[List.take_succ_eq_append_getElem a]
 congr 2
 simp[List.getD,a]
theorem Znm (gs:List (SDk->SDk × Int)) (x:SDk) (i:Nat) (a:i<gs.length) (b:(Q3 (gs.take i) x).2=0):
 (Q3 (gs.take (i+1)) x).1=(gs.getD i ZdT (Q3 (gs.take i) x).1).1∧(Q3 (gs.take (i+1)) x).2=(gs.getD i ZdT (Q3 (gs.take i) x).1).2:=by
 rw[Zqq a ZdT,ZgJ,if_pos b];exact Zqp _ _
theorem ZuK (gs:List (SDk->SDk × Int)) (x:SDk) (i:Nat) (d:i<gs.length) (f:(Q3 (gs.take i) x).2=0) (c:(gs.getD i ZdT (Q3 (gs.take i) x).1).2≠0):
 (Q3 gs x).1=(gs.getD i ZdT (Q3 (gs.take i) x).1).1∧(Q3 gs x).2=(gs.getD i ZdT (Q3 (gs.take i) x).1).2:=by
 have a:=Znm gs x i d f
 have e:Q3 gs x=Q3 (gs.take (i+1)) x:=by
  have b:=ZgJ (gs.take (i+1)) (gs.drop (i+1)) x;rw[List.take_append_drop,if_neg (by rw[a.2];exact c)] at b
  exact b
 rw[e];exact a
def Zsn (K0 Kc:Nat->Prop) (pd p:Nat) (r:SDk × Int) (N T:Nat) (X:(Nat->Prop)->World->Prop) (W:World) (e:Ending) (w':World):Prop:=
 e=.returned (.int .i64 r.2)∧∃ Kd:Nat->Prop,(∀ k,Kc k->Kd k)∧(∀ k,Kd k->k<w'.heap.size)∧Qj (fun k=>¬ K0 k) W w'∧SD Kd w' pd p r.1.1 r.1.2 N T∧(r.2=0->X Kd w')
theorem ZuL {K2:Nat->Prop} (b cap:Nat) (fs:Nat->Stp) (gs:List (SDk->SDk × Int)) (x:SDk) (N T f j:Nat) (w:World) (X:Nat->(Nat->Prop)->World->Prop) (V:gs.length<=1000000)
 (U:K0 b) (cs:Array Value) (G:Bk 153 w b cs) (M:∀ i,i<gs.length->cs[i]?=some (fs i).val)
 (Q:∀ k,K2 k->k<w.heap.size) (O:SD K2 w pd p x.1 x.2 N T) (H:X 0 K2 w)
 (K:∀ i,i<gs.length->∀ (a:Nat->Prop) W,(∀ k,K2 k->a k)->(∀ k,a k->k<W.heap.size)->Qj (fun k=>¬ K0 k) w W->(Q3 (gs.take i) x).2=0->SD a W pd p (Q3 (gs.take i) x).1.1 (Q3 (gs.take i) x).1.2 (N+f*i) (T+j*i)->X i a W->
  Calls prog (fs i).g ((fs i).bd++(fs i).cp) W fun e w'=>Zsn K0 a pd p (gs.getD i ZdT (Q3 (gs.take i) x).1) (N+f*i+f) (T+j*i+j) (X (i+1)) W e w')
 (L:∀ i,i<gs.length->∀ args W,(callFunc (fs i).g args).run prog W=.ok (.enter (fs i).g args) W):
 Calls prog 62 #[.slice (some ⟨b,0,none⟩) gs.length cap] w fun e w'=>Zsn K0 K2 pd p (Q3 gs x) (N+f*gs.length) (T+j*gs.length) (fun _ _=>True) w e w':=by
 refine(ZmJ b 0 cap gs.length fs w
  (fun i W=>(Q3 (gs.take i) x).2=0∧∃ a:Nat->Prop,(∀ k,K2 k->a k)∧(∀ k,a k->k<W.heap.size)∧Qj (fun k=>¬ K0 k) w W∧SD a W pd p (Q3 (gs.take i) x).1.1 (Q3 (gs.take i) x).1.2 (N+f*i) (T+j*i)∧X i a W)
  (fun c W=>(Q3 gs x).2=c∧∃ a:Nat->Prop,(∀ k,K2 k->a k)∧(∀ k,a k->k<W.heap.size)∧Qj (fun k=>¬ K0 k) w W∧SD a W pd p (Q3 gs x).1.1 (Q3 gs x).1.2 (N+f*gs.length) (T+j*gs.length)) V ?_ ?_ L ?_).mono ?_
 ·rintro i W l ⟨-,a,-,-,S,-⟩
  rw[Nat.zero_add];exact((G.keep (S.block b G.lt (fun P=>P U))).cell i (M i l)).1
 ·rintro i W l ⟨u,a,m,t,n,q,I⟩
  refine(K i l a W m t n u q I).mono ?_;rintro e w' ⟨rfl,C,F,D,E,B,J⟩;refine⟨_,rfl,fun d=>?_,fun d=>?_⟩
  ·obtain⟨v,z⟩:=Znm gs x i l u
   refine⟨by rw[z];exact d,C,fun k A=>F k (m k A),D,n.trans E (fun _ _ h=>h),?_,J d⟩
   rw[v,Nat.mul_succ,Nat.mul_succ,<-Nat.add_assoc,<-Nat.add_assoc];exact B
  ·obtain⟨v,z⟩:=ZuK gs x i l u d
   refine⟨z,C,fun k A=>F k (m k A),D,n.trans E (fun _ _ h=>h),?_⟩
   rw[v];refine B.mono ?_ ?_
   ·have:=Nat.mul_le_mul_left f (show i+1<=gs.length from l)
    rw[Nat.mul_succ] at this;omega
   ·have:=Nat.mul_le_mul_left j (show i+1<=gs.length from l)
    rw[Nat.mul_succ] at this;omega
 ·exact⟨rfl,K2,fun _ h=>h,Q,Qj.refl _ _,by rw[Nat.mul_zero,Nat.mul_zero];exact O,H⟩
 ·rintro e w' ⟨c,rfl,u,R⟩
  by_cases y:c=0
  ·obtain⟨d,a,m,t,n,q,-⟩:=u y
   rw[List.take_length] at d q;exact⟨by rw[d,y],a,m,t,n,q,fun _=>trivial⟩
  ·obtain⟨d,a,m,t,n,q⟩:=R y
   exact⟨by rw[d],a,m,t,n,q,fun _=>trivial⟩
theorem Z6.seqD {a:Nat->Prop} {W:World} {r:SDk × Int} {N' T':Nat} {X:(Nat->Prop)->World->Prop} {e:Ending} (h:Z6 a W pd p r N T e w') (f:∀ k,a k->k<W.heap.size) (j:∀ k,K0 k->a k) (l:N<=N') (g:T<=T') (d:Qj (fun k=>¬ a k) W w'->X a w'):Zsn K0 a pd p r N' T' X W e w':=by
 obtain⟨rfl,i,b⟩:=h;exact⟨rfl,a,fun _ h=>h,fun k c=>Nat.lt_of_lt_of_le (f k c) b.size,b.mono (fun k c m=>c (j k m)),i.mono l g,fun _=>d b⟩
theorem Rd.keepK {w:World} {l:List UInt8} (h:Rd w v l) (hv:l=[]∨∀ k,v.ownBlock=some k->K k) (c:Qj (fun k=>¬ K k) w w'):Rd w' v l:=by
 rcases hv with rfl | hv
 ·obtain⟨ao,cap,rfl,d,e,a,g⟩:=h
  exact⟨ao,cap,rfl,d,e,a,.inl rfl⟩
 ·exact h.only c fun k b f=>f (hv k b)
def Jd (n:Qv):List UInt8:=if Zdk n then Zvo n else[]
theorem Zso (n:Qv):(Jd n).length<=80000:=by
 unfold Jd;split
 ·rename_i h
  unfold Zvo ZaV;rw[X4,List.length_append];have a:=ZbM h;have b:=Zep (i:=n.idx.toNat) (by have:=h.1;omega) (w:=Xt n) (by omega)
  have e:=Jb (d:=Zfe n.idx.toNat (Xt n)) (by omega)
  have c:=Zaq _ (Xt n) zL;omega
 ·exact Nat.zero_le _
theorem Zpj {v0:Value} (w:World) (h:SD K w pd p s d N T) (hR:w.cell? ⟨R,0,none⟩=some (ptr p)) (B:Bk 53 w Rb #[v0]) (U:K Rb):
 Calls prog 55 #[.pointer (some ⟨R,0,none⟩),.pointer (some ⟨Rb,0,none⟩)] w fun e w'=>e=.returned (.int .i64 (if Zdk s.now then 0 else 1))∧∃ v',Bk 53 w' Rb #[v']∧Rd w' v' (Jd s.now)∧(∀ k,v'.ownBlock=some k->w.heap.size<=k∧k<w'.heap.size)∧
  SD (fun k=>K k∨(w.heap.size<=k∧k<w'.heap.size)) w' pd p s d N T∧Qj (fun k=>k=Rb) w w':=by
 have Z:=ZZ h;have x:=ZZ B;have Y:=ZZ U;obtain⟨F,M,I,L,h1,j,-⟩:=h;have v:=ZZ (ZoN (snV (L.nx s)) s.now w j.now.snV);obtain⟨c0,-,-,-,-,⟨c5,c6,c7,c8,c9,ab⟩,-⟩:=j.cs;obtain⟨m,l,lc,n,u,C,V,H⟩:=j.now.shape;have A:L.nl=.slice m l lc:=V;have y:L.nt=.slice n u C:=H;have G:Hid (snV (L.nx s)=.agg #[.int .i64 s.now.idx,.int .i64 s.now.st.kind,.slice m l lc,.bool s.now.st.shut,.int .i64 s.now.st.eng,.slice n u C]):=ZZ (by unfold snV snC ZdP.nx;rw[A,y])
 rw[G.o] at v;rw[A] at c7;rw[y] at ab;obtain⟨t,E⟩:∃ t:Int,t=if Zdk s.now then 0 else 1:=⟨_,rfl⟩
 have aa:Hid (Calls prog 56 #[.agg #[.int .i64 s.now.idx,.int .i64 s.now.st.kind,.slice m l lc,.bool s.now.st.shut,.int .i64 s.now.st.eng,.slice n u C]] w fun e w'=>∃ v',e=.returned (.tuple #[v',.int .i64 t])∧Own w' w.heap.size v' (Jd s.now)∧Below w.heap.size w w'):=ZZ (by rw[E];exact v.o)
 rw[<-E];have ac:Hid (Jd s.now=Jd s.now):=ZZ rfl;generalize Jd s.now=W at *;generalize s.now.idx=n0 at *;generalize s.now.st.kind=n1 at *;generalize s.now.st.shut=n2 at *;generalize s.now.st.eng=n3 at *;obtain⟨b0,f0⟩:=B.cell 0 rfl;clear h1 j V H A y G v E ac B U
 go_enter func55,ntmps55
 go_wp2_with fail
 refine aa.o.mono ?_;rintro e a ⟨v',rfl,q,D⟩;have O:=ZZ D;have X:=ZZ q;have S:=ZZ (x.o.keep (D.block _ x.o.lt));obtain⟨f,c,J,-⟩:=q.rd;generalize ae:W.length=g at J;clear ae;subst J;obtain⟨b1,f1⟩:=S.o.cell 0 rfl
 have ad:Hid (∃ v',Bk 53 (a.setCell ⟨Rb,0,none⟩ (.slice f g c)) Rb #[v']∧Rd (a.setCell ⟨Rb,0,none⟩ (.slice f g c)) v' W∧(∀ k,v'.ownBlock=some k->w.heap.size<=k∧k<(a.setCell ⟨Rb,0,none⟩ (.slice f g c)).heap.size)∧
  SD (fun k=>K k∨(w.heap.size<=k∧k<(a.setCell ⟨Rb,0,none⟩ (.slice f g c)).heap.size)) (a.setCell ⟨Rb,0,none⟩ (.slice f g c)) pd p s d N T∧Qj (fun k=>k=Rb) w (a.setCell ⟨Rb,0,none⟩ (.slice f g c))):=ZZ (by
  have Q:(a.setCell ⟨Rb,0,none⟩ (.slice f g c)).heap.size=a.heap.size:=ZpJ _ _ _ _;have P:=World.ownsRow.lt X.o;have af:=x.o.lt;have z:Qj (fun k=>k=Rb) a (a.setCell ⟨Rb,0,none⟩ (.slice f g c)):=(Qj.refl (fun k=>k=Rb) a).setCell (b:=Rb) 0 (fun _=>rfl) _
  refine⟨_,S.o.set 0 _,?_,fun k i=>by rw[Q];exact P k i,?_,(Qj.ofBelow O.o).trans z (fun _ _ h=>h)⟩
  ·exact X.o.rd.only z fun k i e=>by
    have:=P k i;omega
  ·rw[Q]
   exact(Z.o.fresh O.o).onlyK (z.mono (fun k i=>by rw[i];exact .inl Y.o)))
 clear q D;go_wp2;go_ret;exact⟨rfl,ad.o⟩
theorem Zsp (w:World) (h:SD K w pd p s d N T) (i:∀ k,K k->k<w.heap.size) (Q:w.cell? ⟨R,0,none⟩=some (ptr p)) (f:Bk 53 w Rb #[v]) (a:Rd w v (Jd s.now)) (j:Jd s.now=[]∨∀ k,v.ownBlock=some k->K k) (E:N<=1000000) (y:T<=1000000000):
 Calls prog 57 #[.pointer (some ⟨R,0,none⟩),.pointer (some ⟨Rb,0,none⟩)] w fun e w'=>Z6 K w pd p (Zeo (s,d)) (N+2) (T+80000) e w':=by
 have m:Hid (∀ W,Below w.heap.size w W->Calls prog 52 #[ptr pd,.int .i64 1,v] W fun e w'=>Z6 K W pd p (Zeo (s,d)) (N+2) (T+80000) e w'):=ZZ (fun W b=>(h.below b).step (fun d=>Xe d 1 (Jd s.now)) (fun k c=>Nat.lt_of_lt_of_le (i k c) b.size) (fun F x C=>by
  have L:=Zso s.now;refine(ZjC 1 ⟨by decide,by decide⟩ v (Jd s.now) W x (a.below b zL) (j.imp id fun h k c z=>C k z (h k c)) E y (by omega)).mono ?_
  rintro e w' ⟨A,F',B,D⟩
  exact⟨A,F',B.mono zL (by omega),D⟩))
 obtain⟨⟨I,-⟩,-⟩:=h.cells;have l:Hid (Below w.heap.size w w.drew):=ZZ (Below.refl _ _).drew;obtain⟨J,-⟩:=f.cell 0 rfl;obtain⟨M,O,u,-⟩:=id a;generalize G:(Jd s.now).length=H at u;obtain⟨r,n⟩:∃ r,r=Zeo (s,d):=⟨_,rfl⟩;rw[<-n] at m ⊢;subst u;clear h i n a j f G
 go_enter func57,ntmps57
 go_upto_region 1 with fail
 go_region_with(first | (go_at_call 52;refine(m.o _ l.o).mono ?_;rintro e P ⟨rfl,t,q⟩;have g:=ZZ (And.intro t q);clear t q))
 all_goals
  go_wp2;go_ret;exact⟨rfl,g.o.1,(Qj.ofBelow l.o).trans g.o.2 (fun _ _ h=>h)⟩
end Go.Proofs.YtnahjngbneicaaaGreatDoor
