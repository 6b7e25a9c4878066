import Derived.Test.YtnahjngbneicaaaGreatDoorStoreT
namespace Go.Proofs.YtnahjngbneicaaaGreatDoor
open _root_.Go.Proofs.Tryz
set_option maxHeartbeats 1000000
set_option maxRecDepth 100000
open Go.RowKit
variable {K K0:Nat->Prop} {N R Rb T p pd:Nat} {w':World} {v:Value} {s:Sto} {d:Dk}
theorem ZgJ:∀ (a b:List (SDk->SDk × Int)) (x:SDk),Q3 (a++b) x=if(Q3 a x).2=0 then Q3 b (Q3 a x).1 else Q3 a x
 | [],b,x=>by simp[Q3]
 | f::a,b,x=>by
  rw[List.cons_append,Q3,Q3];by_cases h:(f x).2=0
  ·rw[if_pos h,if_pos h]
   exact ZgJ a b _
  ·rw[if_neg h,if_neg h,if_neg h]
def ZdT (y:SDk):SDk × Int:=(y,0)
theorem Zqp (g:SDk->SDk × Int) (y:SDk):(Q3 [g] y).1=(g y).1∧(Q3 [g] y).2=(g y).2:=by
 unfold Q3;split
 ·rename_i h
  exact⟨rfl,h.symm⟩
 ·exact⟨rfl,rfl⟩
theorem Zqq {α:Type} {l:List α} {i:Nat} (a:i<l.length) (z:α):l.take (i+1)=l.take i++[l.getD i z]:=by
 rw[List.take_succ_eq_append_getElem a]
 congr 2
 simp[List.getD,a]
theorem Znm (gs:List (SDk->SDk × Int)) (x:SDk) (i:Nat) (a:i<gs.length) (b:(Q3 (gs.take i) x).2=0):
 (Q3 (gs.take (i+1)) x).1=(gs.getD i ZdT (Q3 (gs.take i) x).1).1∧(Q3 (gs.take (i+1)) x).2=(gs.getD i ZdT (Q3 (gs.take i) x).1).2:=by
 rw[Zqq a ZdT,ZgJ,if_pos b];exact Zqp _ _
theorem ZuK (gs:List (SDk->SDk × Int)) (x:SDk) (i:Nat) (e:i<gs.length) (f:(Q3 (gs.take i) x).2=0) (c:(gs.getD i ZdT (Q3 (gs.take i) x).1).2≠0):
 (Q3 gs x).1=(gs.getD i ZdT (Q3 (gs.take i) x).1).1∧(Q3 gs x).2=(gs.getD i ZdT (Q3 (gs.take i) x).1).2:=by
 have b:=Znm gs x i e f
 have d:Q3 gs x=Q3 (gs.take (i+1)) x:=by
  have a:=ZgJ (gs.take (i+1)) (gs.drop (i+1)) x;rw[List.take_append_drop,if_neg (by rw[b.2];exact c)] at a
  exact a
 rw[d];exact b
def Zsn (K0 Kc:Nat->Prop) (pd p:Nat) (r:SDk × Int) (N T:Nat) (X:(Nat->Prop)->World->Prop) (W:World) (e:Ending) (w':World):Prop:=
 e=.returned (.int .i64 r.2)∧∃ Kd:Nat->Prop,(∀ k,Kc k->Kd k)∧(∀ k,Kd k->k<w'.heap.size)∧Qj (fun k=>¬ K0 k) W w'∧SD Kd w' pd p r.1.1 r.1.2 N T∧(r.2=0->X Kd w')
theorem ZuL {K2:Nat->Prop} (b cap:Nat) (fs:Nat->Stp) (gs:List (SDk->SDk × Int)) (x:SDk) (N T f n:Nat) (w:World) (X:Nat->(Nat->Prop)->World->Prop) (L:gs.length<=1000000)
 (J:K0 b) (cs:Array Value) (G:Bk 153 w b cs) (P:∀ i,i<gs.length->cs[i]?=some (fs i).val)
 (V:∀ k,K2 k->k<w.heap.size) (O:SD K2 w pd p x.1 x.2 N T) (Q:X 0 K2 w)
 (H:∀ i,i<gs.length->∀ (a:Nat->Prop) W,(∀ k,K2 k->a k)->(∀ k,a k->k<W.heap.size)->Qj (fun k=>¬ K0 k) w W->(Q3 (gs.take i) x).2=0->SD a W pd p (Q3 (gs.take i) x).1.1 (Q3 (gs.take i) x).1.2 (N+f*i) (T+n*i)->X i a W->
  Calls prog (fs i).g ((fs i).bd++(fs i).cp) W fun e w'=>Zsn K0 a pd p (gs.getD i ZdT (Q3 (gs.take i) x).1) (N+f*i+f) (T+n*i+n) (X (i+1)) W e w')
 (R:∀ i,i<gs.length->∀ args W,(callFunc (fs i).g args).run prog W=.ok (.enter (fs i).g args) W):
 Calls prog 62 #[.slice (some ⟨b,0,none⟩) gs.length cap] w fun e w'=>Zsn K0 K2 pd p (Q3 gs x) (N+f*gs.length) (T+n*gs.length) (fun _ _=>True) w e w':=by
 refine(ZmJ b 0 cap gs.length fs w
  (fun i W=>(Q3 (gs.take i) x).2=0∧∃ a:Nat->Prop,(∀ k,K2 k->a k)∧(∀ k,a k->k<W.heap.size)∧Qj (fun k=>¬ K0 k) w W∧SD a W pd p (Q3 (gs.take i) x).1.1 (Q3 (gs.take i) x).1.2 (N+f*i) (T+n*i)∧X i a W)
  (fun c W=>(Q3 gs x).2=c∧∃ a:Nat->Prop,(∀ k,K2 k->a k)∧(∀ k,a k->k<W.heap.size)∧Qj (fun k=>¬ K0 k) w W∧SD a W pd p (Q3 gs x).1.1 (Q3 gs x).1.2 (N+f*gs.length) (T+n*gs.length)) L ?_ ?_ R ?_).mono ?_
 ·rintro i W m ⟨-,a,-,-,U,-⟩
  rw[Nat.zero_add];exact((G.keep (U.block b G.lt (fun M=>M J))).cell i (P i m)).1
 ·rintro i W m ⟨t,a,j,u,l,q,K⟩
  refine(H i m a W j u l t q K).mono ?_;rintro e w' ⟨rfl,D,F,B,C,E,S⟩;refine⟨_,rfl,fun d=>?_,fun d=>?_⟩
  ·obtain⟨z,A⟩:=Znm gs x i m t
   refine⟨by rw[A];exact d,D,fun k v=>F k (j k v),B,l.trans C (fun _ _ h=>h),?_,S d⟩
   rw[z,Nat.mul_succ,Nat.mul_succ,<-Nat.add_assoc,<-Nat.add_assoc];exact E
  ·obtain⟨z,A⟩:=ZuK gs x i m t d
   refine⟨A,D,fun k v=>F k (j k v),B,l.trans C (fun _ _ h=>h),?_⟩
   rw[z];refine E.mono ?_ ?_
   ·have:=Nat.mul_le_mul_left f (show i+1<=gs.length from m)
    rw[Nat.mul_succ] at this;omega
   ·have:=Nat.mul_le_mul_left n (show i+1<=gs.length from m)
    rw[Nat.mul_succ] at this;omega
 ·exact⟨rfl,K2,fun _ h=>h,V,Qj.refl _ _,by rw[Nat.mul_zero,Nat.mul_zero];exact O,Q⟩
 ·rintro e w' ⟨c,rfl,t,I⟩
  by_cases y:c=0
  ·obtain⟨d,a,j,u,l,q,-⟩:=t y
   rw[List.take_length] at d q;exact⟨by rw[d,y],a,j,u,l,q,fun _=>trivial⟩
  ·obtain⟨d,a,j,u,l,q⟩:=I y
   exact⟨by rw[d],a,j,u,l,q,fun _=>trivial⟩
theorem Z6.seqD {a:Nat->Prop} {W:World} {r:SDk × Int} {N' T':Nat} {X:(Nat->Prop)->World->Prop} {e:Ending} (h:Z6 a W pd p r N T e w') (f:∀ k,a k->k<W.heap.size) (g:∀ k,K0 k->a k) (l:N<=N') (m:T<=T') (j:Qj (fun k=>¬ a k) W w'->X a w'):Zsn K0 a pd p r N' T' X W e w':=by
 obtain⟨rfl,d,c⟩:=h;exact⟨rfl,a,fun _ h=>h,fun k b=>Nat.lt_of_lt_of_le (f k b) c.size,c.mono (fun k b i=>b (g k i)),d.mono l m,fun _=>j c⟩
theorem Rd.keepK {w:World} {l:List UInt8} (h:Rd w v l) (hv:l=[]∨∀ k,v.ownBlock=some k->K k) (a:Qj (fun k=>¬ K k) w w'):Rd w' v l:=by
 rcases hv with rfl | hv
 ·obtain⟨ao,cap,rfl,b,e,c,g⟩:=h
  exact⟨ao,cap,rfl,b,e,c,.inl rfl⟩
 ·exact h.only a fun k d f=>f (hv k d)
def Jd (n:Qv):List UInt8:=if Zdk n then Zvo n else[]
theorem Zso (n:Qv):(Jd n).length<=80000:=by
 unfold Jd;split
 ·rename_i h
  unfold Zvo ZaV;rw[X4,List.length_append];have b:=ZbM h;have c:=Zep (i:=n.idx.toNat) (by have:=h.1;omega) (w:=Xt n) (by omega)
  have e:=Jb (d:=Zfe n.idx.toNat (Xt n)) (by omega)
  have a:=Zaq _ (Xt n) zL;omega
 ·exact Nat.zero_le _
theorem Zpj {v0:Value} (w:World) (h:SD K w pd p s d N T) (hR:w.cell? ⟨R,0,none⟩=some (ptr p)) (x:Bk 53 w Rb #[v0]) (U:K Rb):
 Calls prog 55 #[.pointer (some ⟨R,0,none⟩),.pointer (some ⟨Rb,0,none⟩)] w fun e w'=>e=.returned (.int .i64 (if Zdk s.now then 0 else 1))∧∃ v',Bk 53 w' Rb #[v']∧Rd w' v' (Jd s.now)∧(∀ k,v'.ownBlock=some k->w.heap.size<=k∧k<w'.heap.size)∧
  SD (fun k=>K k∨(w.heap.size<=k∧k<w'.heap.size)) w' pd p s d N T∧Qj (fun k=>k=Rb) w w':=by
 have HS:=ZZ h;have D:=ZZ x;have Y:=ZZ U;obtain⟨F,M,I,L,h1,j,-⟩:=h;have B:=ZZ (ZoN (snV (L.nx s)) s.now w j.now.snV);obtain⟨c0,-,-,-,-,⟨c5,c6,c7,c8,c9,ac⟩,-⟩:=j.cs;obtain⟨m,y,lc,A,v,C,J,V⟩:=j.now.shape;have n:L.nl=.slice m y lc:=J;have l:L.nt=.slice A v C:=V;have G:Hid (snV (L.nx s)=.agg #[.int .i64 s.now.idx,.int .i64 s.now.st.kind,.slice m y lc,.bool s.now.st.shut,.int .i64 s.now.st.eng,.slice A v C]):=ZZ (by unfold snV snC ZdP.nx;rw[n,l])
 rw[G.o] at B;rw[n] at c7;rw[l] at ac;obtain⟨z,q⟩:∃ z:Int,z=if Zdk s.now then 0 else 1:=⟨_,rfl⟩
 have Z:Hid (Calls prog 56 #[.agg #[.int .i64 s.now.idx,.int .i64 s.now.st.kind,.slice m y lc,.bool s.now.st.shut,.int .i64 s.now.st.eng,.slice A v C]] w fun e w'=>∃ v',e=.returned (.tuple #[v',.int .i64 z])∧Own w' w.heap.size v' (Jd s.now)∧Below w.heap.size w w'):=ZZ (by rw[q];exact B.o)
 rw[<-q];have aa:Hid (Jd s.now=Jd s.now):=ZZ rfl;generalize Jd s.now=H at *;generalize s.now.idx=n0 at *;generalize s.now.st.kind=n1 at *;generalize s.now.st.shut=n2 at *;generalize s.now.st.eng=n3 at *;obtain⟨b0,f0⟩:=x.cell 0 rfl;clear h1 j J V n l G B q aa x U
 go_enter func55,ntmps55
 go_wp2_with fail
 refine Z.o.mono ?_;rintro e a ⟨v',rfl,u,t⟩;have Q:=ZZ t;have X:=ZZ u;have P:=ZZ (D.o.keep (t.block _ D.o.lt));obtain⟨c,g,W,-⟩:=u.rd;generalize ab:H.length=f at W;clear ab;subst W;obtain⟨b1,f1⟩:=P.o.cell 0 rfl
 have ad:Hid (∃ v',Bk 53 (a.setCell ⟨Rb,0,none⟩ (.slice c f g)) Rb #[v']∧Rd (a.setCell ⟨Rb,0,none⟩ (.slice c f g)) v' H∧(∀ k,v'.ownBlock=some k->w.heap.size<=k∧k<(a.setCell ⟨Rb,0,none⟩ (.slice c f g)).heap.size)∧
  SD (fun k=>K k∨(w.heap.size<=k∧k<(a.setCell ⟨Rb,0,none⟩ (.slice c f g)).heap.size)) (a.setCell ⟨Rb,0,none⟩ (.slice c f g)) pd p s d N T∧Qj (fun k=>k=Rb) w (a.setCell ⟨Rb,0,none⟩ (.slice c f g))):=ZZ (by
  have S:(a.setCell ⟨Rb,0,none⟩ (.slice c f g)).heap.size=a.heap.size:=ZpJ _ _ _ _;have O:=World.ownsRow.lt X.o;have ae:=D.o.lt;have E:Qj (fun k=>k=Rb) a (a.setCell ⟨Rb,0,none⟩ (.slice c f g)):=(Qj.refl (fun k=>k=Rb) a).setCell (b:=Rb) 0 (fun _=>rfl) _
  refine⟨_,P.o.set 0 _,?_,fun k i=>by rw[S];exact O k i,?_,(Qj.ofBelow Q.o).trans E (fun _ _ h=>h)⟩
  ·exact X.o.rd.only E fun k i e=>by
    have:=O k i;omega
  ·rw[S]
   exact(HS.o.fresh Q.o).onlyK (E.mono (fun k i=>by rw[i];exact .inl Y.o)))
 clear u t;go_wp2;go_ret;exact⟨rfl,ad.o⟩
theorem Zsp (w:World) (h:SD K w pd p s d N T) (g:∀ k,K k->k<w.heap.size) (O:w.cell? ⟨R,0,none⟩=some (ptr p)) (f:Bk 53 w Rb #[v]) (c:Rd w v (Jd s.now)) (n:Jd s.now=[]∨∀ k,v.ownBlock=some k->K k) (C:N<=1000000) (E:T<=1000000000):
 Calls prog 57 #[.pointer (some ⟨R,0,none⟩),.pointer (some ⟨Rb,0,none⟩)] w fun e w'=>Z6 K w pd p (Zeo (s,d)) (N+2) (T+80000) e w':=by
 have j:Hid (∀ W,Below w.heap.size w W->Calls prog 52 #[ptr pd,.int .i64 1,v] W fun e w'=>Z6 K W pd p (Zeo (s,d)) (N+2) (T+80000) e w'):=ZZ (fun W b=>(h.below b).step (fun d=>Xe d 1 (Jd s.now)) (fun k a=>Nat.lt_of_lt_of_le (g k a) b.size) (fun F A x=>by
  have J:=Zso s.now;refine(ZjC 1 ⟨by decide,by decide⟩ v (Jd s.now) W A (c.below b zL) (n.imp id fun h k a B=>x k B (h k a)) C E (by omega)).mono ?_
  rintro e w' ⟨D,F',y,z⟩
  exact⟨D,F',y.mono zL (by omega),z⟩))
 obtain⟨⟨P,-⟩,-⟩:=h.cells;have m:Hid (Below w.heap.size w w.drew):=ZZ (Below.refl _ _).drew;obtain⟨L,-⟩:=f.cell 0 rfl;obtain⟨M,I,l,-⟩:=id c;generalize G:(Jd s.now).length=H at l;obtain⟨r,i⟩:∃ r,r=Zeo (s,d):=⟨_,rfl⟩;rw[<-i] at j ⊢;subst l;clear h g i c n f G
 go_enter func57,ntmps57
 go_upto_region 1 with fail
 go_region_with(first | (go_at_call 52;refine(j.o _ m.o).mono ?_;rintro e Q ⟨rfl,t,q⟩;have u:=ZZ (And.intro t q);clear t q))
 all_goals
  go_wp2;go_ret;exact⟨rfl,u.o.1,(Qj.ofBelow m.o).trans u.o.2 (fun _ _ h=>h)⟩
end Go.Proofs.YtnahjngbneicaaaGreatDoor
