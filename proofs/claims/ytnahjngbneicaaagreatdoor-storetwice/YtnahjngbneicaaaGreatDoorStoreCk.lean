import Derived.Test.YtnahjngbneicaaaGreatDoorStoreT
namespace Go.Proofs.YtnahjngbneicaaaGreatDoor
open _root_.Go.Proofs.Tryz
set_option maxHeartbeats 1000000
set_option maxRecDepth 100000
open Go.RowKit
theorem ZjZ:∀ (a b:List (SDk->SDk × Int)) (x:SDk),Zbj (a++b) x=if(Zbj a x).2=0 then Zbj b (Zbj a x).1 else Zbj a x
 | [],b,x=>by simp[Zbj]
 | f::a,b,x=>by
  rw[List.cons_append,Zbj,Zbj];by_cases h:(f x).2=0
  ·rw[if_pos h,if_pos h]
   exact ZjZ a b _
  ·rw[if_neg h,if_neg h,if_neg h]
def Zhj (y:SDk):SDk × Int:=(y,0)
theorem ZtF (g:SDk->SDk × Int) (y:SDk):(Zbj [g] y).1=(g y).1∧(Zbj [g] y).2=(g y).2:=by
 unfold Zbj;split
 ·rename_i h
  exact⟨rfl,h.symm⟩
 ·exact⟨rfl,rfl⟩
theorem ZtG {α:Type} {l:List α} {i:Nat} (a:i<l.length) (z:α):l.take (i+1)=l.take i++[l.getD i z]:=by
 rw[List.take_succ_eq_append_getElem a]
 congr 2
 simp[List.getD,a]
theorem ZqC (gs:List (SDk->SDk × Int)) (x:SDk) (i:Nat) (b:i<gs.length) (a:(Zbj (gs.take i) x).2=0):
 (Zbj (gs.take (i+1)) x).1=(gs.getD i Zhj (Zbj (gs.take i) x).1).1∧(Zbj (gs.take (i+1)) x).2=(gs.getD i Zhj (Zbj (gs.take i) x).1).2:=by
 rw[ZtG b Zhj,ZjZ,if_pos a];exact ZtF _ _
theorem Zya (gs:List (SDk->SDk × Int)) (x:SDk) (i:Nat) (e:i<gs.length) (c:(Zbj (gs.take i) x).2=0) (f:(gs.getD i Zhj (Zbj (gs.take i) x).1).2≠0):
 (Zbj gs x).1=(gs.getD i Zhj (Zbj (gs.take i) x).1).1∧(Zbj gs x).2=(gs.getD i Zhj (Zbj (gs.take i) x).1).2:=by
 have a:=ZqC gs x i e c
 have d:Zbj gs x=Zbj (gs.take (i+1)) x:=by
  have b:=ZjZ (gs.take (i+1)) (gs.drop (i+1)) x;rw[List.take_append_drop,if_neg (by rw[a.2];exact f)] at b
  exact b
 rw[d];exact a
def ZvD (K0 Kc:Nat->Prop) (pd p:Nat) (r:SDk × Int) (N T:Nat) (X:(Nat->Prop)->World->Prop) (W:World) (e:Ending) (w':World):Prop:=
 e=.returned (.int .i64 r.2)∧∃ Kd:Nat->Prop,(∀ k,Kc k->Kd k)∧(∀ k,Kd k->k<w'.heap.size)∧Zap (fun k=>¬ K0 k) W w'∧SD Kd w' pd p r.1.1 r.1.2 N T∧(r.2=0->X Kd w')
theorem Zyb {K0 K2:Nat->Prop} {pd p:Nat} (b cap:Nat) (fs:Nat->Stp) (gs:List (SDk->SDk × Int)) (x:SDk) (N T f l:Nat) (w:World) (X:Nat->(Nat->Prop)->World->Prop) (S:gs.length<=1000000)
 (Q:K0 b) (cs:Array Value) (E:Bk 153 w b cs) (U:∀ i,i<gs.length->cs[i]?=some (fs i).val)
 (K:∀ k,K2 k->k<w.heap.size) (M:SD K2 w pd p x.1 x.2 N T) (P:X 0 K2 w)
 (V:∀ i,i<gs.length->∀ (a:Nat->Prop) W,(∀ k,K2 k->a k)->(∀ k,a k->k<W.heap.size)->Zap (fun k=>¬ K0 k) w W->(Zbj (gs.take i) x).2=0->SD a W pd p (Zbj (gs.take i) x).1.1 (Zbj (gs.take i) x).1.2 (N+f*i) (T+l*i)->X i a W->
  Calls prog (fs i).g ((fs i).bd++(fs i).cp) W fun e w'=>ZvD K0 a pd p (gs.getD i Zhj (Zbj (gs.take i) x).1) (N+f*i+f) (T+l*i+l) (X (i+1)) W e w')
 (O:∀ i,i<gs.length->∀ args W,(callFunc (fs i).g args).run prog W=.ok (.enter (fs i).g args) W):
 Calls prog 62 #[.slice (some ⟨b,0,none⟩) gs.length cap] w fun e w'=>ZvD K0 K2 pd p (Zbj gs x) (N+f*gs.length) (T+l*gs.length) (fun _ _=>True) w e w':=by
 refine(ZpZ b 0 cap gs.length fs w
  (fun i W=>(Zbj (gs.take i) x).2=0∧∃ a:Nat->Prop,(∀ k,K2 k->a k)∧(∀ k,a k->k<W.heap.size)∧Zap (fun k=>¬ K0 k) w W∧SD a W pd p (Zbj (gs.take i) x).1.1 (Zbj (gs.take i) x).1.2 (N+f*i) (T+l*i)∧X i a W)
  (fun c W=>(Zbj gs x).2=c∧∃ a:Nat->Prop,(∀ k,K2 k->a k)∧(∀ k,a k->k<W.heap.size)∧Zap (fun k=>¬ K0 k) w W∧SD a W pd p (Zbj gs x).1.1 (Zbj gs x).1.2 (N+f*gs.length) (T+l*gs.length)) S ?_ ?_ O ?_).mono ?_
 ·rintro i W m ⟨-,a,-,-,J,-⟩
  rw[Nat.zero_add];exact((E.keep (J.block b E.lt (fun R=>R Q))).cell i (U i m)).1
 ·rintro i W m ⟨t,a,n,u,j,q,L⟩
  refine(V i m a W n u j t q L).mono ?_;rintro e w' ⟨rfl,D,C,B,F,G,H⟩;refine⟨_,rfl,fun d=>?_,fun d=>?_⟩
  ·obtain⟨z,v⟩:=ZqC gs x i m t
   refine⟨by rw[v];exact d,D,fun k A=>C k (n k A),B,j.trans F (fun _ _ h=>h),?_,H d⟩
   rw[z,Nat.mul_succ,Nat.mul_succ,<-Nat.add_assoc,<-Nat.add_assoc];exact G
  ·obtain⟨z,v⟩:=Zya gs x i m t d
   refine⟨v,D,fun k A=>C k (n k A),B,j.trans F (fun _ _ h=>h),?_⟩
   rw[z];refine G.mono ?_ ?_
   ·have:=Nat.mul_le_mul_left f (show i+1<=gs.length from m)
    rw[Nat.mul_succ] at this;omega
   ·have:=Nat.mul_le_mul_left l (show i+1<=gs.length from m)
    rw[Nat.mul_succ] at this;omega
 ·exact⟨rfl,K2,fun _ h=>h,K,Zap.refl _ _,by rw[Nat.mul_zero,Nat.mul_zero];exact M,P⟩
 ·rintro e w' ⟨c,rfl,t,I⟩
  by_cases y:c=0
  ·obtain⟨d,a,n,u,j,q,-⟩:=t y
   rw[List.take_length] at d q;exact⟨by rw[d,y],a,n,u,j,q,fun _=>trivial⟩
  ·obtain⟨d,a,n,u,j,q⟩:=I y
   exact⟨by rw[d],a,n,u,j,q,fun _=>trivial⟩
theorem Zff.seqD {K0 a:Nat->Prop} {W:World} {pd p:Nat} {r:SDk × Int} {N T N' T':Nat} {X:(Nat->Prop)->World->Prop} {e:Ending} {w':World} (h:Zff a W pd p r N T e w') (f:∀ k,a k->k<W.heap.size) (d:∀ k,K0 k->a k) (m:N<=N') (g:T<=T') (i:Zap (fun k=>¬ a k) W w'->X a w'):ZvD K0 a pd p r N' T' X W e w':=by
 obtain⟨rfl,l,b⟩:=h;exact⟨rfl,a,fun _ h=>h,fun k c=>Nat.lt_of_lt_of_le (f k c) b.size,b.mono (fun k c j=>c (d k j)),l.mono m g,fun _=>i b⟩
theorem Rd.keepK {w w':World} {v:Value} {l:List UInt8} {K:Nat->Prop} (h:Rd w v l) (hv:l=[]∨∀ k,v.ownBlock=some k->K k) (e:Zap (fun k=>¬ K k) w w'):Rd w' v l:=by
 rcases hv with rfl | hv
 ·obtain⟨ao,cap,rfl,a,b,f,g⟩:=h
  exact⟨ao,cap,rfl,a,b,f,.inl rfl⟩
 ·exact h.only e fun k d c=>c (hv k d)
def Zda (n:ZaW):List UInt8:=if ZgA n then ZyE n else[]
theorem ZvE (n:ZaW):(Zda n).length<=80000:=by
 unfold Zda;split
 ·rename_i h
  unfold ZyE Zee;rw[ZaV,List.length_append];have c:=Zfa h;have a:=ZhF (i:=n.idx.toNat) (by have:=h.1;omega) (w:=Zbc n) (by omega)
  have b:=Zcc (d:=Ziu n.idx.toNat (Zbc n)) (by omega)
  have e:=Zdk _ (Zbc n) zL;omega
 ·exact Nat.zero_le _
theorem Zsz {K:Nat->Prop} {pd p R Rb:Nat} {s:Sto} {d:Dk} {N T:Nat} {v0:Value} (w:World) (h:SD K w pd p s d N T) (hR:w.cell? ⟨R,0,none⟩=some (ptr p)) (m:Bk 53 w Rb #[v0]) (E:K Rb):
 Calls prog 55 #[.pointer (some ⟨R,0,none⟩),.pointer (some ⟨Rb,0,none⟩)] w fun e w'=>e=.returned (.int .i64 (if ZgA s.now then 0 else 1))∧∃ v',Bk 53 w' Rb #[v']∧Rd w' v' (Zda s.now)∧(∀ k,v'.ownBlock=some k->w.heap.size<=k∧k<w'.heap.size)∧
  SD (fun k=>K k∨(w.heap.size<=k∧k<w'.heap.size)) w' pd p s d N T∧Zap (fun k=>k=Rb) w w':=by
 have Z:=ZZ h;have A:=ZZ m;have ab:=ZZ E;obtain⟨F,M,I,L,W,i,-⟩:=h;have t:=ZZ (Zsd (snV (L.nx s)) s.now w i.now.snV);obtain⟨c0,-,-,-,-,⟨c5,c6,c7,c8,c9,ad⟩,-⟩:=i.cs;obtain⟨B,u,lc,D,x,y,H,G⟩:=i.now.shape;have n:L.nl=.slice B u lc:=H;have C:L.nt=.slice D x y:=G;have O:Hid (snV (L.nx s)=.agg #[.int .i64 s.now.idx,.int .i64 s.now.st.kind,.slice B u lc,.bool s.now.st.shut,.int .i64 s.now.st.eng,.slice D x y]):=ZZ (by unfold snV snC Zhf.nx;rw[n,C])
 rw[O.o] at t;rw[n] at c7;rw[C] at ad;obtain⟨v,z⟩:∃ v:Int,v=if ZgA s.now then 0 else 1:=⟨_,rfl⟩
 have Y:Hid (Calls prog 56 #[.agg #[.int .i64 s.now.idx,.int .i64 s.now.st.kind,.slice B u lc,.bool s.now.st.shut,.int .i64 s.now.st.eng,.slice D x y]] w fun e w'=>∃ v',e=.returned (.tuple #[v',.int .i64 v])∧Own w' w.heap.size v' (Zda s.now)∧Below w.heap.size w w'):=ZZ (by rw[z];exact t.o)
 rw[<-z];have X:Hid (Zda s.now=Zda s.now):=ZZ rfl;generalize Zda s.now=BC at *;generalize s.now.idx=n0 at *;generalize s.now.st.kind=n1 at *;generalize s.now.st.shut=n2 at *;generalize s.now.st.eng=n3 at *;obtain⟨b0,f0⟩:=m.cell 0 rfl;clear W i H G n C O t z X m E
 go_enter func55,ntmps55
 go_wp2_with fail
 refine Y.o.mono ?_;rintro e a ⟨v',rfl,j,q⟩;have J:=ZZ q;have P:=ZZ j;have U:=ZZ (A.o.keep (q.block _ A.o.lt));obtain⟨f,c,S,-⟩:=j.rd;generalize ac:BC.length=vn at S;clear ac;subst S;obtain⟨b1,f1⟩:=U.o.cell 0 rfl
 have aa:Hid (∃ v',Bk 53 (a.setCell ⟨Rb,0,none⟩ (.slice f vn c)) Rb #[v']∧Rd (a.setCell ⟨Rb,0,none⟩ (.slice f vn c)) v' BC∧(∀ k,v'.ownBlock=some k->w.heap.size<=k∧k<(a.setCell ⟨Rb,0,none⟩ (.slice f vn c)).heap.size)∧
  SD (fun k=>K k∨(w.heap.size<=k∧k<(a.setCell ⟨Rb,0,none⟩ (.slice f vn c)).heap.size)) (a.setCell ⟨Rb,0,none⟩ (.slice f vn c)) pd p s d N T∧Zap (fun k=>k=Rb) w (a.setCell ⟨Rb,0,none⟩ (.slice f vn c))):=ZZ (by
  have V:(a.setCell ⟨Rb,0,none⟩ (.slice f vn c)).heap.size=a.heap.size:=ZsZ _ _ _ _;have Q:=World.ownsRow.lt P.o;have ae:=A.o.lt;have l:Zap (fun k=>k=Rb) a (a.setCell ⟨Rb,0,none⟩ (.slice f vn c)):=(Zap.refl (fun k=>k=Rb) a).setCell (b:=Rb) 0 (fun _=>rfl) _
  refine⟨_,U.o.set 0 _,?_,fun k g=>by rw[V];exact Q k g,?_,(Zap.ofBelow J.o).trans l (fun _ _ h=>h)⟩
  ·exact P.o.rd.only l fun k g e=>by
    have:=Q k g;omega
  ·rw[V]
   exact(Z.o.fresh J.o).onlyK (l.mono (fun k g=>by rw[g];exact .inl ab.o)))
 clear j q;go_wp2;go_ret;exact⟨rfl,aa.o⟩
theorem ZvF {K:Nat->Prop} {pd p R Rb:Nat} {s:Sto} {d:Dk} {N T:Nat} {v:Value} (w:World) (h:SD K w pd p s d N T) (g:∀ k,K k->k<w.heap.size) (L:w.cell? ⟨R,0,none⟩=some (ptr p)) (t:Bk 53 w Rb #[v]) (b:Rd w v (Zda s.now)) (i:Zda s.now=[]∨∀ k,v.ownBlock=some k->K k) (E:N<=1000000) (z:T<=1000000000):
 Calls prog 57 #[.pointer (some ⟨R,0,none⟩),.pointer (some ⟨Rb,0,none⟩)] w fun e w'=>Zff K w pd p (ZhE (s,d)) (N+2) (T+80000) e w':=by
 have q:Hid (∀ W,Below w.heap.size w W->Calls prog 52 #[ptr pd,.int .i64 1,v] W fun e w'=>Zff K W pd p (ZhE (s,d)) (N+2) (T+80000) e w'):=ZZ (fun W a=>(h.below a).step (fun d=>ZaK d 1 (Zda s.now)) (fun k c=>Nat.lt_of_lt_of_le (g k c) a.size) (fun F C x=>by
  have M:=ZvE s.now;refine(ZmS 1 ⟨by decide,by decide⟩ v (Zda s.now) W C (b.below a zL) (i.imp id fun h k c B=>x k B (h k c)) E z (by omega)).mono ?_
  rintro e w' ⟨y,F',D,A⟩
  exact⟨y,F',D.mono zL (by omega),A⟩))
 obtain⟨⟨J,-⟩,-⟩:=h.cells;have j:Hid (Below w.heap.size w w.drew):=ZZ (Below.refl _ _).drew;obtain⟨H,-⟩:=t.cell 0 rfl;obtain⟨P,O,f,-⟩:=id b;generalize G:(Zda s.now).length=vn at f;obtain⟨r,n⟩:∃ r,r=ZhE (s,d):=⟨_,rfl⟩;rw[<-n] at q ⊢;subst f;clear h g n b i t G
 go_enter func57,ntmps57
 go_upto_region 1 with fail
 go_region_with(first | (go_at_call 52;refine(q.o _ j.o).mono ?_;rintro e I ⟨rfl,u,l⟩;have m:=ZZ (And.intro u l);clear u l))
 all_goals
  go_wp2;go_ret;exact⟨rfl,m.o.1,(Zap.ofBelow j.o).trans m.o.2 (fun _ _ h=>h)⟩
end Go.Proofs.YtnahjngbneicaaaGreatDoor
