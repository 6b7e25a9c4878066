import Derived.Test.YtfiffndhehkapaaGreatDoorStoreRet
import Derived.Test.YtfiffndhehkapaaGreatDoorPack10
namespace Go.Proofs.YtfiffndhehkapaaGreatDoor
set_option maxRecDepth 100000
open Go.RowKit
theorem ZAp {w:World} {v:Value} {l:List Pce} (h:w.ownsRow 0 109 3 v l.length (Zau l)) (j:Nat) (hj:j<l.length):
 ∃ g cap,v=.slice (some ⟨g,0,none⟩) l.length cap∧w.cell? ⟨g,j*3,none⟩=some (.int .i64 (l.getD j Zcc).name)∧w.cell? ⟨g,j*3+1,none⟩=some (.int .i64 (l.getD j Zcc).first)∧w.cell? ⟨g,j*3+2,none⟩=some (.int .i64 (l.getD j Zcc).stop):=by
 rcases h.2 with ⟨_,hn⟩ | ⟨g,cap,cur,hv,hb,hg,hnc,hcm,hcs,htake⟩
 ·omega
 ·have hl:=Zdh l
  have key:∀ k,k<3->w.cell? ⟨g,j*3+k,none⟩=(pcC (l.getD j Zcc))[k]?:=fun k hk=>by
   have h1:=Zfk l j k hj hk
   rw[<-htake,List.getElem?_take,if_pos (by omega),Array.getElem?_toList] at h1
   rw[cell_of_row w g _ _ _ _ hg]
   exact h1
  exact⟨g,cap,hv,key 0 (by decide),key 1 (by decide),key 2 (by decide)⟩
theorem ZpR {α β:Type} (f:α->β) (l:List α) (y z:β) (z0:α) (i:Nat) (hi:i<l.length):(l.map f++[y]).getD i z=f (l.getD i z0):=by
 rw[Zlo _ _ _ _ (by rw[List.length_map];exact hi)]
 simp[List.getD,hi]
theorem ZpS {α β:Type} (f:α->β) (l:List α) (y z:β) (i:Nat) (hi:i=l.length):(l.map f++[y]).getD i z=y:=by
 have h:=Zlp (l.map f) y z
 rw[List.length_map] at h
 rw[hi]
 exact h
def ZuO (p R:Nat) (bx:List Nat) (i:Nat):Stp:=(bx.map (ZlJ R)++[(⟨65,#[ptr p],#[]⟩:Stp)]).getD i (⟨0,#[],#[]⟩:Stp)
set_option maxHeartbeats 2000000 in
theorem Zxe {K0:Nat->Prop} {pd p R b cap:Nat} {s:Sto} {d:Dk} {N T:Nat} {gone:List Pce} {bx:List Nat} (w:World) (hs:SD K0 w pd p s d N T) (hK:∀ k,K0 k->k<w.heap.size) (hb:K0 b) (hR:K0 R) (hbx:∀ j,j<bx.length->K0 (bx.getD j 0)∧Bk 109 w (bx.getD j 0) (pcC (gone.getD j Zcc))) (hln:bx.length=gone.length)
 (hr:Bk 28 w R #[ptr p]) (cs:Array Value) (hrow:Bk 154 w b cs) (hcs:∀ i,i<bx.length+1->cs[i]?=some (ZuO p R bx i).val) (hnm:∀ q ∈ gone,I64 q.name) (hlen:gone.length<=100000) (hN:N<=700000) (hT:T<=900000000):
 Calls Tryz.prog 63 #[.slice (some ⟨b,0,none⟩) (bx.length+1) cap] w fun e w'=>ZuL K0 K0 pd p (Zbh ((gone.map fun q=>Zbu (fun d=>Zam d q.name))++[Zaq]) (s,d)) (N+2*(bx.length+1)) T (fun _ _=>True) w e w':=by
 obtain⟨gs,hgs⟩:∃ gs,gs=(gone.map fun q:Pce=>Zbu (fun d=>Zam d q.name))++[Zaq]:=⟨_,rfl⟩
 have hgl:gs.length=bx.length+1:=by rw[hgs,List.length_append,List.length_map,hln];rfl
 rw[<-hgs,<-hgl]
 have hget:∀ i,i<bx.length->gs.getD i ZgS=Zbu (fun d=>Zam d (gone.getD i Zcc).name)∧ZuO p R bx i=ZlJ R (bx.getD i 0):=fun i hi=>by
  have hi2:i<gone.length:=by omega
  refine⟨?_,?_⟩
  ·rw[hgs]
   exact ZpR (fun q:Pce=>Zbu (fun d=>Zam d q.name)) gone Zaq ZgS Zcc i hi2
  ·unfold ZuO
   exact ZpR (ZlJ R) bx _ _ 0 i hi
 have hgetL:gs.getD bx.length ZgS=Zaq∧ZuO p R bx bx.length=⟨65,#[ptr p],#[]⟩:=by
  refine⟨?_,?_⟩
  ·rw[hgs]
   exact ZpS (fun q:Pce=>Zbu (fun d=>Zam d q.name)) gone Zaq ZgS bx.length hln
  ·unfold ZuO
   exact ZpS (ZlJ R) bx _ _ bx.length rfl
 have hx:=Zxd (K0:=K0) (K2:=K0) (pd:=pd) (p:=p) b cap (ZuO p R bx) gs (s,d) N T 2 0 w (fun _ _ _=>True) (by omega) hb cs hrow (fun i hi=>hcs i (by omega)) hK hs trivial (fun i hi Kc W h1 h2 h3 h4 h5 _=>?_) (fun i hi args W=>?_)
 ·rw[Nat.zero_mul,Nat.add_zero] at hx
  exact hx
 ·rw[Nat.zero_mul,Nat.add_zero] at h5
  have hki:∀ k,K0 k->W.heap[k]?=w.heap[k]?:=fun k hk=>h3.block k (hK k hk) (fun hh=>hh hk)
  by_cases e:i<bx.length
  ·obtain⟨e1,e2⟩:=hget i e
   rw[e1,e2]
   obtain⟨g1,g2⟩:=hbx i e
   have hb1:=((g2.keep (hki _ g1)).cell 0 rfl).1
   have hr1:=((hr.keep (hki _ hR)).cell 0 rfl).1
   have hmm:(gone.getD i Zcc) ∈ gone:=by
    have hi2:i<gone.length:=by omega
    have:gone.getD i Zcc=gone[i]:=by simp[List.getD,hi2]
    rw[this]
    exact List.getElem_mem hi2
   refine(ZrS (gone.getD i Zcc).name W h5 h2 hr1 hb1 (hnm _ hmm) (by omega) (by omega)).mono ?_
   intro e9 w9 h9
   exact h9.seqD h2 h1 zL (by omega) (fun _=>trivial)
  ·have e9:i=bx.length:=by omega
   subst e9
   rw[hgetL.1,hgetL.2]
   refine(ZfP W h5 h2).mono ?_
   intro e9 w9 h9
   exact h9.seqD h2 h1 zL (by omega) (fun _=>trivial)
 ·by_cases e:i<bx.length
  ·rw[(hget i e).2]
   exact(enters_of Tryz.func69 (by kernel_rfl) rfl) args W
  ·have e9:i=bx.length:=by omega
   subst e9
   rw[hgetL.2]
   exact(enters_of Tryz.func65 (by kernel_rfl) rfl) args W
end Go.Proofs.YtfiffndhehkapaaGreatDoor
