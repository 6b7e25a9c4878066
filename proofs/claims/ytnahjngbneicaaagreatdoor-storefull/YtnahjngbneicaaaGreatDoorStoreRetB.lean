import Derived.Test.YtnahjngbneicaaaGreatDoorStoreRet
namespace Go.Proofs.YtnahjngbneicaaaGreatDoor
set_option linter.unusedSimpArgs false
open _root_.Go.Proofs.Tryz
open List (length_map)
set_option maxRecDepth 100000
open Go.RowKit
theorem ZzW {w:World} {v:Value} {l:List Pce} (h:w.ownsRow 0 108 3 v l.length (Q7 l)) (j:Nat) (b:j<l.length):
 ∃ g cap,v=.slice (some ⟨g,0,none⟩) l.length cap∧w.cell? ⟨g,j*3,none⟩=some (.int .i64 (l.getD j Zm).name)∧w.cell? ⟨g,j*3+1,none⟩=some (.int .i64 (l.getD j Zm).first)∧w.cell? ⟨g,j*3+2,none⟩=some (.int .i64 (l.getD j Zm).stop):=by
 rcases h.2 with ⟨_,m⟩ | ⟨g,cap,cur,f,q,d,i,n,p,e⟩
 ·omega
 ·have t:=Zat l
  have key:∀ k,k<3->w.cell? ⟨g,j*3+k,none⟩=(pcC (l.getD j Zm))[k]?:=fun k c=>by
   have a:=Zch l j k b c;rw[<-e,zdl,zab (by omega),zb2] at a
   rw[zas w g _ _ _ _ d];exact a
  exact⟨g,cap,f,key 0 (by decide),key 1 (by decide),key 2 (by decide)⟩
theorem ZoT {α β:Type} (f:α->β) (l:List α) (y z:β) (b:α) (i:Nat) (a:i<l.length):(l.map f++[y]).getD i z=f (l.getD i b):=by
 rw[ZjI _ _ _ _ (by rw[length_map];exact a)]
 simp[List.getD,a]
theorem ZoU {α β:Type} (f:α->β) (l:List α) (y z:β) (i:Nat) (a:i=l.length):(l.map f++[y]).getD i z=y:=by
 have h:=ZjJ (l.map f) y z;rw[length_map] at h;rw[a];exact h
def Zud (p R:Nat) (bx:List Nat) (i:Nat):Stp:=(bx.map (ZjP R)++[(⟨64,#[ptr p],#[]⟩:Stp)]).getD i (⟨0,#[],#[]⟩:Stp)
set_option maxHeartbeats 2000000 in
theorem ZwK {K0:Nat->Prop} {pd p R b cap:Nat} {s:Sto} {d:Dk} {N T:Nat} {gone:List Pce} {a:List Nat} (w:World) (D:SD K0 w pd p s d N T) (x:∀ k,K0 k->k<w.heap.size) (Y:K0 b) (P:K0 R) (I:∀ j,j<a.length->K0 (a.getD j 0)∧Bk 108 w (a.getD j 0) (pcC (gone.getD j Zm))) (y:a.length=gone.length)
 (H:Bk 28 w R #[ptr p]) (cs:Array Value) (G:Bk 153 w b cs) (Q:∀ i,i<a.length+1->cs[i]?=some (Zud p R a i).val) (V:∀ q ∈ gone,I64 q.name) (aa:gone.length<=100000) (hN:N<=700000) (hT:T<=900000000):
 Calls prog 62 #[.slice (some ⟨b,0,none⟩) (a.length+1) cap] w fun e w'=>ZtF K0 K0 pd p (Qv ((gone.map fun q=>Xo (fun d=>Qi d q.name))++[Qp]) (s,d)) (N+2*(a.length+1)) T (fun _ _=>True) w e w':=by
 obtain⟨gs,f⟩:=zg7 ((gone.map fun q:Pce=>Xo (fun d=>Qi d q.name))++[Qp])
 have J:gs.length=a.length+1:=by rw[f,zdb,length_map,y];rfl
 rw[<-f,<-J]
 have v:∀ i,i<a.length->gs.getD i Zei=Xo (fun d=>Qi d (gone.getD i Zm).name)∧Zud p R a i=ZjP R (a.getD i 0):=fun i l=>by
  have g:i<gone.length:=by omega
  refine⟨?_,?_⟩
  ·rw[f]
   exact ZoT (fun q:Pce=>Xo (fun d=>Qi d q.name)) gone Qp Zei Zm i g
  ·unfold Zud
   exact ZoT (ZjP R) a _ _ 0 i l
 have u:gs.getD a.length Zei=Qp∧Zud p R a a.length=⟨64,#[ptr p],#[]⟩:=by
  refine⟨?_,?_⟩
  ·rw[f]
   exact ZoU (fun q:Pce=>Xo (fun d=>Qi d q.name)) gone Qp Zei a.length y
  ·unfold Zud
   exact ZoU (ZjP R) a _ _ a.length rfl
 have C:=Zwh (K0:=K0) (K2:=K0) (pd:=pd) (p:=p) b cap (Zud p R a) gs (s,d) N T 2 0 w (fun _ _ _=>True) (by omega) Y cs G (fun i l=>Q i (by omega)) x D trivial (fun i l Kc W A m O h4 n _=>?_) (fun i l args W=>?_)
 ·rw[zc7,zc2] at C
  exact C
 ·rw[zc7,zc2] at n
  have B:∀ k,K0 k->W.heap[k]?=w.heap[k]?:=fun k z=>O.block k (x k z) (fun L=>L z)
  by_cases e:i<a.length
  ·obtain⟨S,F⟩:=v i e
   rw[S,F];obtain⟨M,K⟩:=I i e;have X:=((K.keep (B _ M)).cell 0 rfl).1;have U:=((H.keep (B _ P)).cell 0 rfl).1
   have Z:(gone.getD i Zm) ∈ gone:=by
    have g:i<gone.length:=by omega
    have:gone.getD i Zm=gone[i]:=by simp[List.getD,g]
    rw[this];exact zcp g
   refine(ZqP (gone.getD i Zm).name W n m U X (V _ Z) (by omega) (by omega)).mono ?_
   intro c E t;exact t.seqD m A zL (by omega) (fun _=>trivial)
  ·have c:i=a.length:=by omega
   subst c;rw[u.1,u.2];refine(ZcL W n m).mono ?_;intro c E t;exact t.seqD m A zL (by omega) (fun _=>trivial)
 ·by_cases e:i<a.length
  ·rw[(v i e).2]
   exact(enters_of func68 (by kernel_rfl) rfl) args W
  ·have c:i=a.length:=by omega
   subst c;rw[u.2];exact(enters_of func64 (by kernel_rfl) rfl) args W
end Go.Proofs.YtnahjngbneicaaaGreatDoor
