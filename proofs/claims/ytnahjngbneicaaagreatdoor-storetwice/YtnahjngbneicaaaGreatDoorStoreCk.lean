import Derived.Test.YtnahjngbneicaaaGreatDoorStoreT
namespace Go.Proofs.YtnahjngbneicaaaGreatDoor
open _root_.Go.Proofs.Tryz
set_option maxHeartbeats 1000000
set_option maxRecDepth 100000
open Go.RowKit
variable {K K0:Nat->Prop} {N R Rb T p pd:Nat} {w':World} {v:Value} {s:Sto} {d:Dk}
theorem ZjZ:∀ (a b:List (SDk->SDk × Int)) (x:SDk),Zbj (a++b) x=if(Zbj a x).2=0 then Zbj b (Zbj a x).1 else Zbj a x
 | [],b,x=>by simp[Zbj]
 | f::a,b,x=>by
  rw[List.cons_append,Zbj,Zbj];by_cases h:(f x).2=0
  ·rw[if_pos h,if_pos h]
   exact ZjZ a b _
  ·rw[if_neg h,if_neg h,if_neg h]
def Zhj (y:SDk):SDk × Int:=(y,0)
theorem ZtF (g:SDk->SDk × Int) (y:SDk):(Zbj [g] y).1=(g y).1∧(Zbj [g] y).2=(g y).2:=by
 unfold Zbj;split
 ·rename_i h
  exact⟨rfl,h.symm⟩
 ·exact⟨rfl,rfl⟩
theorem ZtG {α:Type} {l:List α} {i:Nat} (a:i<l.length) (z:α):l.take (i+1)=l.take i++[l.getD i z]:=by
 rw[List.take_succ_eq_append_getElem a]
 congr 2
 simp[List.getD,a]
theorem ZqC (gs:List (SDk->SDk × Int)) (x:SDk) (i:Nat) (a:i<gs.length) (b:(Zbj (gs.take i) x).2=0):
 (Zbj (gs.take (i+1)) x).1=(gs.getD i Zhj (Zbj (gs.take i) x).1).1∧(Zbj (gs.take (i+1)) x).2=(gs.getD i Zhj (Zbj (gs.take i) x).1).2:=by
 rw[ZtG a Zhj,ZjZ,if_pos b];exact ZtF _ _
theorem Zya (gs:List (SDk->SDk × Int)) (x:SDk) (i:Nat) (e:i<gs.length) (f:(Zbj (gs.take i) x).2=0) (d:(gs.getD i Zhj (Zbj (gs.take i) x).1).2≠0):
 (Zbj gs x).1=(gs.getD i Zhj (Zbj (gs.take i) x).1).1∧(Zbj gs x).2=(gs.getD i Zhj (Zbj (gs.take i) x).1).2:=by
 have a:=ZqC gs x i e f
 have c:Zbj gs x=Zbj (gs.take (i+1)) x:=by
  have b:=ZjZ (gs.take (i+1)) (gs.drop (i+1)) x;rw[List.take_append_drop,if_neg (by rw[a.2];exact d)] at b
  exact b
 rw[c];exact a
def ZvD (K0 Kc:Nat->Prop) (pd p:Nat) (r:SDk × Int) (N T:Nat) (X:(Nat->Prop)->World->Prop) (W:World) (e:Ending) (w':World):Prop:=
 e=.returned (.int .i64 r.2)∧∃ Kd:Nat->Prop,(∀ k,Kc k->Kd k)∧(∀ k,Kd k->k<w'.heap.size)∧Zap (fun k=>¬ K0 k) W w'∧SD Kd w' pd p r.1.1 r.1.2 N T∧(r.2=0->X Kd w')
theorem Zyb {K2:Nat->Prop} (b cap:Nat) (fs:Nat->Stp) (gs:List (SDk->SDk × Int)) (x:SDk) (N T j n:Nat) (w:World) (X:Nat->(Nat->Prop)->World->Prop) (S:gs.length<=1000000)
 (P:K0 b) (cs:Array Value) (C:Bk 153 w b cs) (K:∀ i,i<gs.length->cs[i]?=some (fs i).val)
 (Q:∀ k,K2 k->k<w.heap.size) (L:SD K2 w pd p x.1 x.2 N T) (I:X 0 K2 w)
 (J:∀ i,i<gs.length->∀ (a:Nat->Prop) W,(∀ k,K2 k->a k)->(∀ k,a k->k<W.heap.size)->Zap (fun k=>¬ K0 k) w W->(Zbj (gs.take i) x).2=0->SD a W pd p (Zbj (gs.take i) x).1.1 (Zbj (gs.take i) x).1.2 (N+j*i) (T+n*i)->X i a W->
  Calls prog (fs i).g ((fs i).bd++(fs i).cp) W fun e w'=>ZvD K0 a pd p (gs.getD i Zhj (Zbj (gs.take i) x).1) (N+j*i+j) (T+n*i+n) (X (i+1)) W e w')
 (R:∀ i,i<gs.length->∀ args W,(callFunc (fs i).g args).run prog W=.ok (.enter (fs i).g args) W):
 Calls prog 62 #[.slice (some ⟨b,0,none⟩) gs.length cap] w fun e w'=>ZvD K0 K2 pd p (Zbj gs x) (N+j*gs.length) (T+n*gs.length) (fun _ _=>True) w e w':=by
 refine(ZpZ b 0 cap gs.length fs w
  (fun i W=>(Zbj (gs.take i) x).2=0∧∃ a:Nat->Prop,(∀ k,K2 k->a k)∧(∀ k,a k->k<W.heap.size)∧Zap (fun k=>¬ K0 k) w W∧SD a W pd p (Zbj (gs.take i) x).1.1 (Zbj (gs.take i) x).1.2 (N+j*i) (T+n*i)∧X i a W)
  (fun c W=>(Zbj gs x).2=c∧∃ a:Nat->Prop,(∀ k,K2 k->a k)∧(∀ k,a k->k<W.heap.size)∧Zap (fun k=>¬ K0 k) w W∧SD a W pd p (Zbj gs x).1.1 (Zbj gs x).1.2 (N+j*gs.length) (T+n*gs.length)) S ?_ ?_ R ?_).mono ?_
 ·rintro i W m ⟨-,a,-,-,U,-⟩
  rw[Nat.zero_add];exact((C.keep (U.block b C.lt (fun H=>H P))).cell i (K i m)).1
 ·rintro i W m ⟨u,a,f,t,l,q,O⟩
  refine(J i m a W f t l u q O).mono ?_;rintro e w' ⟨rfl,B,F,D,E,G,M⟩;refine⟨_,rfl,fun d=>?_,fun d=>?_⟩
  ·obtain⟨y,z⟩:=ZqC gs x i m u
   refine⟨by rw[z];exact d,B,fun k v=>F k (f k v),D,l.trans E (fun _ _ h=>h),?_,M d⟩
   rw[y,Nat.mul_succ,Nat.mul_succ,<-Nat.add_assoc,<-Nat.add_assoc];exact G
  ·obtain⟨y,z⟩:=Zya gs x i m u d
   refine⟨z,B,fun k v=>F k (f k v),D,l.trans E (fun _ _ h=>h),?_⟩
   rw[y];refine G.mono ?_ ?_
   ·have:=Nat.mul_le_mul_left j (show i+1<=gs.length from m)
    rw[Nat.mul_succ] at this;omega
   ·have:=Nat.mul_le_mul_left n (show i+1<=gs.length from m)
    rw[Nat.mul_succ] at this;omega
 ·exact⟨rfl,K2,fun _ h=>h,Q,Zap.refl _ _,by rw[Nat.mul_zero,Nat.mul_zero];exact L,I⟩
 ·rintro e w' ⟨c,rfl,u,V⟩
  by_cases A:c=0
  ·obtain⟨d,a,f,t,l,q,-⟩:=u A
   rw[List.take_length] at d q;exact⟨by rw[d,A],a,f,t,l,q,fun _=>trivial⟩
  ·obtain⟨d,a,f,t,l,q⟩:=V A
   exact⟨by rw[d],a,f,t,l,q,fun _=>trivial⟩
theorem Zff.seqD {a:Nat->Prop} {W:World} {r:SDk × Int} {N' T':Nat} {X:(Nat->Prop)->World->Prop} {e:Ending} (h:Zff a W pd p r N T e w') (f:∀ k,a k->k<W.heap.size) (i:∀ k,K0 k->a k) (m:N<=N') (g:T<=T') (d:Zap (fun k=>¬ a k) W w'->X a w'):ZvD K0 a pd p r N' T' X W e w':=by
 obtain⟨rfl,j,c⟩:=h;exact⟨rfl,a,fun _ h=>h,fun k b=>Nat.lt_of_lt_of_le (f k b) c.size,c.mono (fun k b l=>b (i k l)),j.mono m g,fun _=>d c⟩
theorem Rd.keepK {w:World} {l:List UInt8} (h:Rd w v l) (hv:l=[]∨∀ k,v.ownBlock=some k->K k) (c:Zap (fun k=>¬ K k) w w'):Rd w' v l:=by
 rcases hv with rfl | hv
 ·obtain⟨ao,cap,rfl,b,a,f,g⟩:=h
  exact⟨ao,cap,rfl,b,a,f,.inl rfl⟩
 ·exact h.only c fun k d e=>e (hv k d)
def Zda (n:ZaW):List UInt8:=if ZgA n then ZyE n else[]
theorem ZvE (n:ZaW):(Zda n).length<=80000:=by
 unfold Zda;split
 ·rename_i h
  unfold ZyE Zee;rw[ZaV,List.length_append];have e:=Zfa h;have b:=ZhF (i:=n.idx.toNat) (by have:=h.1;omega) (w:=Zbc n) (by omega)
  have a:=Zcc (d:=Ziu n.idx.toNat (Zbc n)) (by omega)
  have c:=Zdk _ (Zbc n) zL;omega
 ·exact Nat.zero_le _
theorem Zsz {v0:Value} (w:World) (h:SD K w pd p s d N T) (hR:w.cell? ⟨R,0,none⟩=some (ptr p)) (q:Bk 53 w Rb #[v0]) (Q:K Rb):
 Calls prog 55 #[.pointer (some ⟨R,0,none⟩),.pointer (some ⟨Rb,0,none⟩)] w fun e w'=>e=.returned (.int .i64 (if ZgA s.now then 0 else 1))∧∃ v',Bk 53 w' Rb #[v']∧Rd w' v' (Zda s.now)∧(∀ k,v'.ownBlock=some k->w.heap.size<=k∧k<w'.heap.size)∧
  SD (fun k=>K k∨(w.heap.size<=k∧k<w'.heap.size)) w' pd p s d N T∧Zap (fun k=>k=Rb) w w':=by
 have HS:=ZZ h;have u:=ZZ q;have Y:=ZZ Q;obtain⟨F,M,I,L,h1,j,-⟩:=h;have x:=ZZ (Zsd (snV (L.nx s)) s.now w j.now.snV);obtain⟨c0,-,-,-,-,⟨c5,c6,c7,c8,c9,Z⟩,-⟩:=j.cs;obtain⟨n,A,lc,C,z,l,H,J⟩:=j.now.shape;have v:L.nl=.slice n A lc:=H;have m:L.nt=.slice C z l:=J;have P:Hid (snV (L.nx s)=.agg #[.int .i64 s.now.idx,.int .i64 s.now.st.kind,.slice n A lc,.bool s.now.st.shut,.int .i64 s.now.st.eng,.slice C z l]):=ZZ (by unfold snV snC Zhf.nx;rw[v,m])
 rw[P.o] at x;rw[v] at c7;rw[m] at Z;obtain⟨t,D⟩:∃ t:Int,t=if ZgA s.now then 0 else 1:=⟨_,rfl⟩
 have ac:Hid (Calls prog 56 #[.agg #[.int .i64 s.now.idx,.int .i64 s.now.st.kind,.slice n A lc,.bool s.now.st.shut,.int .i64 s.now.st.eng,.slice C z l]] w fun e w'=>∃ v',e=.returned (.tuple #[v',.int .i64 t])∧Own w' w.heap.size v' (Zda s.now)∧Below w.heap.size w w'):=ZZ (by rw[D];exact x.o)
 rw[<-D];have ab:Hid (Zda s.now=Zda s.now):=ZZ rfl;generalize Zda s.now=G at *;generalize s.now.idx=n0 at *;generalize s.now.st.kind=n1 at *;generalize s.now.st.shut=n2 at *;generalize s.now.st.eng=n3 at *;obtain⟨b0,f0⟩:=q.cell 0 rfl;clear h1 j H J v m P x D ab q Q
 go_enter func55,ntmps55
 go_wp2_with fail
 refine ac.o.mono ?_;rintro e a ⟨v',rfl,y,B⟩;have X:=ZZ B;have S:=ZZ y;have V:=ZZ (u.o.keep (B.block _ u.o.lt));obtain⟨f,g,U,-⟩:=y.rd;generalize aa:G.length=c at U;clear aa;subst U;obtain⟨b1,f1⟩:=V.o.cell 0 rfl
 have ad:Hid (∃ v',Bk 53 (a.setCell ⟨Rb,0,none⟩ (.slice f c g)) Rb #[v']∧Rd (a.setCell ⟨Rb,0,none⟩ (.slice f c g)) v' G∧(∀ k,v'.ownBlock=some k->w.heap.size<=k∧k<(a.setCell ⟨Rb,0,none⟩ (.slice f c g)).heap.size)∧
  SD (fun k=>K k∨(w.heap.size<=k∧k<(a.setCell ⟨Rb,0,none⟩ (.slice f c g)).heap.size)) (a.setCell ⟨Rb,0,none⟩ (.slice f c g)) pd p s d N T∧Zap (fun k=>k=Rb) w (a.setCell ⟨Rb,0,none⟩ (.slice f c g))):=ZZ (by
  have W:(a.setCell ⟨Rb,0,none⟩ (.slice f c g)).heap.size=a.heap.size:=ZsZ _ _ _ _;have O:=World.ownsRow.lt S.o;have ae:=u.o.lt;have E:Zap (fun k=>k=Rb) a (a.setCell ⟨Rb,0,none⟩ (.slice f c g)):=(Zap.refl (fun k=>k=Rb) a).setCell (b:=Rb) 0 (fun _=>rfl) _
  refine⟨_,V.o.set 0 _,?_,fun k i=>by rw[W];exact O k i,?_,(Zap.ofBelow X.o).trans E (fun _ _ h=>h)⟩
  ·exact S.o.rd.only E fun k i e=>by
    have:=O k i;omega
  ·rw[W]
   exact(HS.o.fresh X.o).onlyK (E.mono (fun k i=>by rw[i];exact .inl Y.o)))
 clear y B;go_wp2;go_ret;exact⟨rfl,ad.o⟩
theorem ZvF (w:World) (h:SD K w pd p s d N T) (g:∀ k,K k->k<w.heap.size) (H:w.cell? ⟨R,0,none⟩=some (ptr p)) (m:Bk 53 w Rb #[v]) (c:Rd w v (Zda s.now)) (f:Zda s.now=[]∨∀ k,v.ownBlock=some k->K k) (E:N<=1000000) (z:T<=1000000000):
 Calls prog 57 #[.pointer (some ⟨R,0,none⟩),.pointer (some ⟨Rb,0,none⟩)] w fun e w'=>Zff K w pd p (ZhE (s,d)) (N+2) (T+80000) e w':=by
 have l:Hid (∀ W,Below w.heap.size w W->Calls prog 52 #[ptr pd,.int .i64 1,v] W fun e w'=>Zff K W pd p (ZhE (s,d)) (N+2) (T+80000) e w'):=ZZ (fun W a=>(h.below a).step (fun d=>ZaK d 1 (Zda s.now)) (fun k b=>Nat.lt_of_lt_of_le (g k b) a.size) (fun F D B=>by
  have O:=ZvE s.now;refine(ZmS 1 ⟨by decide,by decide⟩ v (Zda s.now) W D (c.below a zL) (f.imp id fun h k b C=>B k C (h k b)) E z (by omega)).mono ?_
  rintro e w' ⟨x,F',y,A⟩
  exact⟨x,F',y.mono zL (by omega),A⟩))
 obtain⟨⟨M,-⟩,-⟩:=h.cells;have n:Hid (Below w.heap.size w w.drew):=ZZ (Below.refl _ _).drew;obtain⟨J,-⟩:=m.cell 0 rfl;obtain⟨P,Q,i,-⟩:=id c;generalize G:(Zda s.now).length=L at i;obtain⟨r,u⟩:∃ r,r=ZhE (s,d):=⟨_,rfl⟩;rw[<-u] at l ⊢;subst i;clear h g u c f m G
 go_enter func57,ntmps57
 go_upto_region 1 with fail
 go_region_with(first | (go_at_call 52;refine(l.o _ n.o).mono ?_;rintro e I ⟨rfl,t,q⟩;have j:=ZZ (And.intro t q);clear t q))
 all_goals
  go_wp2;go_ret;exact⟨rfl,j.o.1,(Zap.ofBelow n.o).trans j.o.2 (fun _ _ h=>h)⟩
end Go.Proofs.YtnahjngbneicaaaGreatDoor
