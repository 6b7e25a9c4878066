import Derived.Test.YtnahjngbneicaaaGreatDoorStoreRet
namespace Go.Proofs.YtnahjngbneicaaaGreatDoor
open _root_.Go.Proofs.Tryz
open List (length_map)
set_option maxRecDepth 100000
open Go.RowKit
theorem ZBi {w:World} {v:Value} {l:List Pce} (h:w.ownsRow 0 108 3 v l.length (Zau l)) (j:Nat) (c:j<l.length):
 ∃ g cap,v=.slice (some ⟨g,0,none⟩) l.length cap∧w.cell? ⟨g,j*3,none⟩=some (.int .i64 (l.getD j Zce).name)∧w.cell? ⟨g,j*3+1,none⟩=some (.int .i64 (l.getD j Zce).first)∧w.cell? ⟨g,j*3+2,none⟩=some (.int .i64 (l.getD j Zce).stop):=by
 rcases h.2 with ⟨_,p⟩ | ⟨g,cap,cur,b,n,e,m,t,i,d⟩
 ·omega
 ·have q:=Zdn l
  have key:∀ k,k<3->w.cell? ⟨g,j*3+k,none⟩=(pcC (l.getD j Zce))[k]?:=fun k f=>by
   have a:=Zfw l j k c f;rw[<-d,List.getElem?_take,if_pos (by omega),Array.getElem?_toList] at a
   rw[cell_of_row w g _ _ _ _ e];exact a
  exact⟨g,cap,b,key 0 (by decide),key 1 (by decide),key 2 (by decide)⟩
theorem ZqD {α β:Type} (f:α->β) (l:List α) (y z:β) (b:α) (i:Nat) (a:i<l.length):(l.map f++[y]).getD i z=f (l.getD i b):=by
 rw[ZlP _ _ _ _ (by rw[length_map];exact a)]
 simp[List.getD,a]
theorem ZqE {α β:Type} (f:α->β) (l:List α) (y z:β) (i:Nat) (a:i=l.length):(l.map f++[y]).getD i z=y:=by
 have h:=ZlQ (l.map f) y z;rw[length_map] at h;rw[a];exact h
def ZvG (p R:Nat) (bx:List Nat) (i:Nat):Stp:=(bx.map (Zmk R)++[(⟨64,#[ptr p],#[]⟩:Stp)]).getD i (⟨0,#[],#[]⟩:Stp)
set_option maxHeartbeats 2000000 in
theorem Zyc {K0:Nat->Prop} {pd p R b cap:Nat} {s:Sto} {d:Dk} {N T:Nat} {gone:List Pce} {a:List Nat} (w:World) (G:SD K0 w pd p s d N T) (u:∀ k,K0 k->k<w.heap.size) (M:K0 b) (H:K0 R) (Q:∀ j,j<a.length->K0 (a.getD j 0)∧Bk 108 w (a.getD j 0) (pcC (gone.getD j Zce))) (x:a.length=gone.length)
 (S:Bk 28 w R #[ptr p]) (cs:Array Value) (O:Bk 153 w b cs) (I:∀ i,i<a.length+1->cs[i]?=some (ZvG p R a i).val) (X:∀ q ∈ gone,I64 q.name) (aa:gone.length<=100000) (hN:N<=700000) (hT:T<=900000000):
 Calls prog 62 #[.slice (some ⟨b,0,none⟩) (a.length+1) cap] w fun e w'=>ZvD K0 K0 pd p (Zbj ((gone.map fun q=>Zbv (fun d=>Zam d q.name))++[Zar]) (s,d)) (N+2*(a.length+1)) T (fun _ _=>True) w e w':=by
 obtain⟨gs,h⟩:∃ gs,gs=(gone.map fun q:Pce=>Zbv (fun d=>Zam d q.name))++[Zar]:=⟨_,rfl⟩
 have D:gs.length=a.length+1:=by rw[h,List.length_append,length_map,x];rfl
 rw[<-h,<-D]
 have v:∀ i,i<a.length->gs.getD i Zhj=Zbv (fun d=>Zam d (gone.getD i Zce).name)∧ZvG p R a i=Zmk R (a.getD i 0):=fun i g=>by
  have l:i<gone.length:=by omega
  refine⟨?_,?_⟩
  ·rw[h]
   exact ZqD (fun q:Pce=>Zbv (fun d=>Zam d q.name)) gone Zar Zhj Zce i l
  ·unfold ZvG
   exact ZqD (Zmk R) a _ _ 0 i g
 have n:gs.getD a.length Zhj=Zar∧ZvG p R a a.length=⟨64,#[ptr p],#[]⟩:=by
  refine⟨?_,?_⟩
  ·rw[h]
   exact ZqE (fun q:Pce=>Zbv (fun d=>Zam d q.name)) gone Zar Zhj a.length x
  ·unfold ZvG
   exact ZqE (Zmk R) a _ _ a.length rfl
 have A:=Zyb (K0:=K0) (K2:=K0) (pd:=pd) (p:=p) b cap (ZvG p R a) gs (s,d) N T 2 0 w (fun _ _ _=>True) (by omega) M cs O (fun i g=>I i (by omega)) u G trivial (fun i g Kc W B f K Z t _=>?_) (fun i g args W=>?_)
 ·rw[Nat.zero_mul,Nat.add_zero] at A
  exact A
 ·rw[Nat.zero_mul,Nat.add_zero] at t
  have y:∀ k,K0 k->W.heap[k]?=w.heap[k]?:=fun k z=>K.block k (u k z) (fun C=>C z)
  by_cases e:i<a.length
  ·obtain⟨P,U⟩:=v i e
   rw[P,U];obtain⟨J,L⟩:=Q i e;have V:=((L.keep (y _ J)).cell 0 rfl).1;have E:=((S.keep (y _ H)).cell 0 rfl).1
   have F:(gone.getD i Zce) ∈ gone:=by
    have l:i<gone.length:=by omega
    have:gone.getD i Zce=gone[i]:=by simp[List.getD,l]
    rw[this];exact List.getElem_mem l
   refine(ZsB (gone.getD i Zce).name W t f E V (X _ F) (by omega) (by omega)).mono ?_
   intro c Y m;exact m.seqD f B zL (by omega) (fun _=>trivial)
  ·have c:i=a.length:=by omega
   subst c;rw[n.1,n.2];refine(Zgc W t f).mono ?_;intro c Y m;exact m.seqD f B zL (by omega) (fun _=>trivial)
 ·by_cases e:i<a.length
  ·rw[(v i e).2]
   exact(enters_of func68 (by kernel_rfl) rfl) args W
  ·have c:i=a.length:=by omega
   subst c;rw[n.2];exact(enters_of func64 (by kernel_rfl) rfl) args W
end Go.Proofs.YtnahjngbneicaaaGreatDoor
