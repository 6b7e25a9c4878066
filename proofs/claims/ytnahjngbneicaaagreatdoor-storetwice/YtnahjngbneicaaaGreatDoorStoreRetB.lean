import Derived.Test.YtnahjngbneicaaaGreatDoorStoreRet
namespace Go.Proofs.YtnahjngbneicaaaGreatDoor
open _root_.Go.Proofs.Tryz
open List (length_map)
set_option maxRecDepth 100000
open Go.RowKit
theorem ZxS {w:World} {v:Value} {l:List Pce} (h:w.ownsRow 0 108 3 v l.length (Qx l)) (j:Nat) (c:j<l.length):
 ∃ g cap,v=.slice (some ⟨g,0,none⟩) l.length cap∧w.cell? ⟨g,j*3,none⟩=some (.int .i64 (l.getD j Yv).name)∧w.cell? ⟨g,j*3+1,none⟩=some (.int .i64 (l.getD j Yv).first)∧w.cell? ⟨g,j*3+2,none⟩=some (.int .i64 (l.getD j Yv).stop):=by
 rcases h.2 with ⟨_,p⟩ | ⟨g,cap,cur,d,i,f,n,t,q,e⟩
 ·omega
 ·have m:=Zas l
  have key:∀ k,k<3->w.cell? ⟨g,j*3+k,none⟩=(pcC (l.getD j Yv))[k]?:=fun k b=>by
   have a:=Zch l j k c b;rw[<-e,List.getElem?_take,if_pos (by omega),Array.getElem?_toList] at a
   rw[cell_of_row w g _ _ _ _ f];exact a
  exact⟨g,cap,d,key 0 (by decide),key 1 (by decide),key 2 (by decide)⟩
theorem Znn {α β:Type} (f:α->β) (l:List α) (y z:β) (b:α) (i:Nat) (a:i<l.length):(l.map f++[y]).getD i z=f (l.getD i b):=by
 rw[Ziz _ _ _ _ (by rw[length_map];exact a)]
 simp[List.getD,a]
theorem Zno {α β:Type} (f:α->β) (l:List α) (y z:β) (i:Nat) (a:i=l.length):(l.map f++[y]).getD i z=y:=by
 have h:=ZiA (l.map f) y z;rw[length_map] at h;rw[a];exact h
def Zsq (p R:Nat) (bx:List Nat) (i:Nat):Stp:=(bx.map (ZiU R)++[(⟨64,#[ptr p],#[]⟩:Stp)]).getD i (⟨0,#[],#[]⟩:Stp)
set_option maxHeartbeats 2000000 in
theorem ZuM {K0:Nat->Prop} {pd p R b cap:Nat} {s:Sto} {d:Dk} {N T:Nat} {gone:List Pce} {a:List Nat} (w:World) (Q:SD K0 w pd p s d N T) (y:∀ k,K0 k->k<w.heap.size) (E:K0 b) (V:K0 R) (Y:∀ j,j<a.length->K0 (a.getD j 0)∧Bk 108 w (a.getD j 0) (pcC (gone.getD j Yv))) (C:a.length=gone.length)
 (M:Bk 28 w R #[ptr p]) (cs:Array Value) (X:Bk 153 w b cs) (S:∀ i,i<a.length+1->cs[i]?=some (Zsq p R a i).val) (J:∀ q ∈ gone,I64 q.name) (aa:gone.length<=100000) (hN:N<=700000) (hT:T<=900000000):
 Calls prog 62 #[.slice (some ⟨b,0,none⟩) (a.length+1) cap] w fun e w'=>Zsn K0 K0 pd p (Q3 ((gone.map fun q=>X0 (fun d=>Qp d q.name))++[Qt]) (s,d)) (N+2*(a.length+1)) T (fun _ _=>True) w e w':=by
 obtain⟨gs,l⟩:∃ gs,gs=(gone.map fun q:Pce=>X0 (fun d=>Qp d q.name))++[Qt]:=⟨_,rfl⟩
 have Z:gs.length=a.length+1:=by rw[l,List.length_append,length_map,C];rfl
 rw[<-l,<-Z]
 have v:∀ i,i<a.length->gs.getD i ZdT=X0 (fun d=>Qp d (gone.getD i Yv).name)∧Zsq p R a i=ZiU R (a.getD i 0):=fun i g=>by
  have m:i<gone.length:=by omega
  refine⟨?_,?_⟩
  ·rw[l]
   exact Znn (fun q:Pce=>X0 (fun d=>Qp d q.name)) gone Qt ZdT Yv i m
  ·unfold Zsq
   exact Znn (ZiU R) a _ _ 0 i g
 have n:gs.getD a.length ZdT=Qt∧Zsq p R a a.length=⟨64,#[ptr p],#[]⟩:=by
  refine⟨?_,?_⟩
  ·rw[l]
   exact Zno (fun q:Pce=>X0 (fun d=>Qp d q.name)) gone Qt ZdT a.length C
  ·unfold Zsq
   exact Zno (ZiU R) a _ _ a.length rfl
 have A:=ZuL (K0:=K0) (K2:=K0) (pd:=pd) (p:=p) b cap (Zsq p R a) gs (s,d) N T 2 0 w (fun _ _ _=>True) (by omega) E cs X (fun i g=>S i (by omega)) y Q trivial (fun i g Kc W z f O h4 u _=>?_) (fun i g args W=>?_)
 ·rw[Nat.zero_mul,Nat.add_zero] at A
  exact A
 ·rw[Nat.zero_mul,Nat.add_zero] at u
  have B:∀ k,K0 k->W.heap[k]?=w.heap[k]?:=fun k x=>O.block k (y k x) (fun P=>P x)
  by_cases e:i<a.length
  ·obtain⟨H,U⟩:=v i e
   rw[H,U];obtain⟨F,K⟩:=Y i e;have L:=((K.keep (B _ F)).cell 0 rfl).1;have I:=((M.keep (B _ V)).cell 0 rfl).1
   have G:(gone.getD i Yv) ∈ gone:=by
    have m:i<gone.length:=by omega
    have:gone.getD i Yv=gone[i]:=by simp[List.getD,m]
    rw[this];exact List.getElem_mem m
   refine(Zpl (gone.getD i Yv).name W u f I L (J _ G) (by omega) (by omega)).mono ?_
   intro c D t;exact t.seqD f z zL (by omega) (fun _=>trivial)
  ·have c:i=a.length:=by omega
   subst c;rw[n.1,n.2];refine(ZcM W u f).mono ?_;intro c D t;exact t.seqD f z zL (by omega) (fun _=>trivial)
 ·by_cases e:i<a.length
  ·rw[(v i e).2]
   exact(enters_of func68 (by kernel_rfl) rfl) args W
  ·have c:i=a.length:=by omega
   subst c;rw[n.2];exact(enters_of func64 (by kernel_rfl) rfl) args W
end Go.Proofs.YtnahjngbneicaaaGreatDoor
