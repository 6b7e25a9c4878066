import Derived.Test.YtnahjngbneicaaaGreatDoorStoreRet
namespace Go.Proofs.YtnahjngbneicaaaGreatDoor
open _root_.Go.Proofs.Tryz
open List (length_map)
set_option maxRecDepth 100000
open Go.RowKit
theorem ZxS {w:World} {v:Value} {l:List Pce} (h:w.ownsRow 0 108 3 v l.length (Qx l)) (j:Nat) (e:j<l.length):
 ∃ g cap,v=.slice (some ⟨g,0,none⟩) l.length cap∧w.cell? ⟨g,j*3,none⟩=some (.int .i64 (l.getD j Yv).name)∧w.cell? ⟨g,j*3+1,none⟩=some (.int .i64 (l.getD j Yv).first)∧w.cell? ⟨g,j*3+2,none⟩=some (.int .i64 (l.getD j Yv).stop):=by
 rcases h.2 with ⟨_,t⟩ | ⟨g,cap,cur,d,i,c,p,q,n,b⟩
 ·omega
 ·have m:=Zas l
  have key:∀ k,k<3->w.cell? ⟨g,j*3+k,none⟩=(pcC (l.getD j Yv))[k]?:=fun k f=>by
   have a:=Zch l j k e f;rw[<-b,List.getElem?_take,if_pos (by omega),Array.getElem?_toList] at a
   rw[cell_of_row w g _ _ _ _ c];exact a
  exact⟨g,cap,d,key 0 (by decide),key 1 (by decide),key 2 (by decide)⟩
theorem Znn {α β:Type} (f:α->β) (l:List α) (y z:β) (b:α) (i:Nat) (a:i<l.length):(l.map f++[y]).getD i z=f (l.getD i b):=by
 rw[Ziz _ _ _ _ (by rw[length_map];exact a)]
 simp[List.getD,a]
theorem Zno {α β:Type} (f:α->β) (l:List α) (y z:β) (i:Nat) (a:i=l.length):(l.map f++[y]).getD i z=y:=by
 have h:=ZiA (l.map f) y z;rw[length_map] at h;rw[a];exact h
def Zsq (p R:Nat) (bx:List Nat) (i:Nat):Stp:=(bx.map (ZiU R)++[(⟨64,#[ptr p],#[]⟩:Stp)]).getD i (⟨0,#[],#[]⟩:Stp)
set_option maxHeartbeats 2000000 in
theorem ZuM {K0:Nat->Prop} {pd p R b cap:Nat} {s:Sto} {d:Dk} {N T:Nat} {gone:List Pce} {a:List Nat} (w:World) (P:SD K0 w pd p s d N T) (y:∀ k,K0 k->k<w.heap.size) (D:K0 b) (Z:K0 R) (G:∀ j,j<a.length->K0 (a.getD j 0)∧Bk 108 w (a.getD j 0) (pcC (gone.getD j Yv))) (C:a.length=gone.length)
 (K:Bk 28 w R #[ptr p]) (cs:Array Value) (U:Bk 153 w b cs) (O:∀ i,i<a.length+1->cs[i]?=some (Zsq p R a i).val) (X:∀ q ∈ gone,I64 q.name) (aa:gone.length<=100000) (hN:N<=700000) (hT:T<=900000000):
 Calls prog 62 #[.slice (some ⟨b,0,none⟩) (a.length+1) cap] w fun e w'=>Zsn K0 K0 pd p (Q3 ((gone.map fun q=>X0 (fun d=>Qp d q.name))++[Qt]) (s,d)) (N+2*(a.length+1)) T (fun _ _=>True) w e w':=by
 obtain⟨gs,l⟩:∃ gs,gs=(gone.map fun q:Pce=>X0 (fun d=>Qp d q.name))++[Qt]:=⟨_,rfl⟩
 have E:gs.length=a.length+1:=by rw[l,List.length_append,length_map,C];rfl
 rw[<-l,<-E]
 have z:∀ i,i<a.length->gs.getD i ZdT=X0 (fun d=>Qp d (gone.getD i Yv).name)∧Zsq p R a i=ZiU R (a.getD i 0):=fun i f=>by
  have g:i<gone.length:=by omega
  refine⟨?_,?_⟩
  ·rw[l]
   exact Znn (fun q:Pce=>X0 (fun d=>Qp d q.name)) gone Qt ZdT Yv i g
  ·unfold Zsq
   exact Znn (ZiU R) a _ _ 0 i f
 have n:gs.getD a.length ZdT=Qt∧Zsq p R a a.length=⟨64,#[ptr p],#[]⟩:=by
  refine⟨?_,?_⟩
  ·rw[l]
   exact Zno (fun q:Pce=>X0 (fun d=>Qp d q.name)) gone Qt ZdT a.length C
  ·unfold Zsq
   exact Zno (ZiU R) a _ _ a.length rfl
 have x:=ZuL (K0:=K0) (K2:=K0) (pd:=pd) (p:=p) b cap (Zsq p R a) gs (s,d) N T 2 0 w (fun _ _ _=>True) (by omega) D cs U (fun i f=>O i (by omega)) y P trivial (fun i f Kc W A m F h4 u _=>?_) (fun i f args W=>?_)
 ·rw[Nat.zero_mul,Nat.add_zero] at x
  exact x
 ·rw[Nat.zero_mul,Nat.add_zero] at u
  have v:∀ k,K0 k->W.heap[k]?=w.heap[k]?:=fun k B=>F.block k (y k B) (fun Q=>Q B)
  by_cases e:i<a.length
  ·obtain⟨H,M⟩:=z i e
   rw[H,M];obtain⟨L,S⟩:=G i e;have I:=((S.keep (v _ L)).cell 0 rfl).1;have V:=((K.keep (v _ Z)).cell 0 rfl).1
   have Y:(gone.getD i Yv) ∈ gone:=by
    have g:i<gone.length:=by omega
    have:gone.getD i Yv=gone[i]:=by simp[List.getD,g]
    rw[this];exact List.getElem_mem g
   refine(Zpl (gone.getD i Yv).name W u m V I (X _ Y) (by omega) (by omega)).mono ?_
   intro c J t;exact t.seqD m A zL (by omega) (fun _=>trivial)
  ·have c:i=a.length:=by omega
   subst c;rw[n.1,n.2];refine(ZcM W u m).mono ?_;intro c J t;exact t.seqD m A zL (by omega) (fun _=>trivial)
 ·by_cases e:i<a.length
  ·rw[(z i e).2]
   exact(enters_of func68 (by kernel_rfl) rfl) args W
  ·have c:i=a.length:=by omega
   subst c;rw[n.2];exact(enters_of func64 (by kernel_rfl) rfl) args W
end Go.Proofs.YtnahjngbneicaaaGreatDoor
