import Derived.Test.YtnahjngbneicaaaGreatDoorStoreT
namespace Go.Proofs.YtnahjngbneicaaaGreatDoor
set_option maxRecDepth 100000
open Go.RowKit
def ZwG (w:World) (s:St) (e:Ending) (w':World):Prop:=∃ vl,e=.returned (.agg #[.int .i64 s.kind,vl,.bool s.shut,.int .i64 s.eng])∧RdI w' vl s.L∧I64 s.kind∧I64 s.eng∧(∀ b,vl.ownBlock=some b->w.heap.size<=b)∧Below w.heap.size w w'
set_option maxHeartbeats 2000000 in
theorem ZsH (kind:Int) (w:World):Calls Tryz.prog 16 #[.int .i64 kind] w fun e w'=>ZwG w (Zcx kind) e w':=by
 have c0:I64 0:=Zaj (by decide) (by decide)
 have H1:Hid (∀ x,Below w.heap.size w (w.alloc x)):=fun x=>(Below.refl _ _).alloc zL x
 have H2:Hid (∀ x y,Below w.heap.size w ((w.alloc x).alloc y)):=fun x y=>(H1.out x).alloc (by simp) y
 have C0:=Zac c0
 clear c0
 by_cases hbad:kind<0∨6<=kind
 ·have HE:Hid (Zcx kind=⟨0,[],false,0⟩):=if_pos hbad
  rw[HE.out]
  have e0:(kind == 0)=false:=beq_eq_false_iff_ne.2 (by omega)
  have e1:(kind == 1)=false:=beq_eq_false_iff_ne.2 (by omega)
  have e2:(kind == 2)=false:=beq_eq_false_iff_ne.2 (by omega)
  have e3:(kind == 3)=false:=beq_eq_false_iff_ne.2 (by omega)
  have e4:(kind == 4)=false:=beq_eq_false_iff_ne.2 (by omega)
  have e5:(kind == 5)=false:=beq_eq_false_iff_ne.2 (by omega)
  clear hbad HE
  go_enter Tryz.func16,Tryz.ntmps16
  go_wp2
  refine bodyPost_ret (v:=.agg #[.int .i64 0,.slice none 0 0,.bool false,.int .i64 0]) (by simp[results,Tryz.results16,go_sem]) rfl ?_
  exact⟨_,rfl,RdI.nil _,C0.out,C0.out,(fun b hb=>by cases hb),H1.out _⟩
 ·have HKI:Hid (I64 kind):=Zaj (by omega) (by omega)
  by_cases h1:kind<=1
  ·have HE:Hid (Zcx kind=⟨kind,[0],false,0⟩):=by
    unfold Zcx
    rw[if_neg hbad,if_pos h1]
    exact rfl
   rw[HE.out]
   have hk:kind=0∨kind=1:=by omega
   clear hbad h1 HE
   have HRD:Hid (∀ x,RdI ((w.alloc x).alloc (.cells #[.int .i64 0] 3)) (.slice (some ⟨w.heap.size+1,0,none⟩) 1 1) [0]):=fun x=>by
    have h:=RdI.one (w.alloc x) 0 C0.out
    have e:(w.alloc x).heap.size=w.heap.size+1:=by simp
    rwa [e] at h
   rcases hk with rfl | rfl
   ·go_enter Tryz.func16,Tryz.ntmps16
    go_wp2
    refine bodyPost_ret (v:=.agg #[.int .i64 0,.slice (some ⟨w.heap.size+1,0,none⟩) 1 1,.bool false,.int .i64 0]) (by simp[results,Tryz.results16,go_sem]) rfl ?_
    exact⟨_,rfl,HRD.out _,HKI.out,C0.out,(fun b hb=>by have h9:w.heap.size+1=b:=Option.some.inj hb;omega),H2.out _ _⟩
   ·go_enter Tryz.func16,Tryz.ntmps16
    go_wp2
    refine bodyPost_ret (v:=.agg #[.int .i64 1,.slice (some ⟨w.heap.size+1,0,none⟩) 1 1,.bool false,.int .i64 0]) (by simp[results,Tryz.results16,go_sem]) rfl ?_
    exact⟨_,rfl,HRD.out _,HKI.out,C0.out,(fun b hb=>by have h9:w.heap.size+1=b:=Option.some.inj hb;omega),H2.out _ _⟩
  ·have HE:Hid (Zcx kind=⟨kind,[],false,0⟩):=by
    unfold Zcx
    rw[if_neg hbad,if_neg h1]
    exact rfl
   rw[HE.out]
   have hk:kind=2∨kind=3∨kind=4∨kind=5:=by omega
   clear hbad h1 HE
   rcases hk with rfl | rfl | rfl | rfl
   ·go_enter Tryz.func16,Tryz.ntmps16
    go_wp2
    refine bodyPost_ret (v:=.agg #[.int .i64 2,.slice none 0 0,.bool false,.int .i64 0]) (by simp[results,Tryz.results16,go_sem]) rfl ?_
    exact⟨_,rfl,RdI.nil _,HKI.out,C0.out,(fun b hb=>by cases hb),H1.out _⟩
   ·go_enter Tryz.func16,Tryz.ntmps16
    go_wp2
    refine bodyPost_ret (v:=.agg #[.int .i64 3,.slice none 0 0,.bool false,.int .i64 0]) (by simp[results,Tryz.results16,go_sem]) rfl ?_
    exact⟨_,rfl,RdI.nil _,HKI.out,C0.out,(fun b hb=>by cases hb),H1.out _⟩
   ·go_enter Tryz.func16,Tryz.ntmps16
    go_wp2
    refine bodyPost_ret (v:=.agg #[.int .i64 4,.slice none 0 0,.bool false,.int .i64 0]) (by simp[results,Tryz.results16,go_sem]) rfl ?_
    exact⟨_,rfl,RdI.nil _,HKI.out,C0.out,(fun b hb=>by cases hb),H1.out _⟩
   ·go_enter Tryz.func16,Tryz.ntmps16
    go_wp2
    refine bodyPost_ret (v:=.agg #[.int .i64 5,.slice none 0 0,.bool false,.int .i64 0]) (by simp[results,Tryz.results16,go_sem]) rfl ?_
    exact⟨_,rfl,RdI.nil _,HKI.out,C0.out,(fun b hb=>by cases hb),H1.out _⟩
structure Zcu (w:World) (I:Nat->Prop) (v:Value) (l:List Int) (bv:Value) (bs:List (ZaX × Value × Value)) (wr:World):Prop where
 row:wr.ownsRow 0 41 6 bv bs.length (ZaQ bs)
 far:∀ k,bv.ownBlock=some k->w.heap.size<=k
 each:∀ x ∈ bs,SnR wr x
 ibs:∀ x ∈ bs,ZmJ I x
 lo:∀ k,I k->w.heap.size<=k
 ltI:∀ k,I k->k<wr.heap.size
 dis:∀ k,I k->bv.ownBlock≠some k
 nms:Zax wr w.heap.size v l
 old:Below w.heap.size w wr
theorem Zcu.ltB {w:World} {I:Nat->Prop} {v:Value} {l:List Int} {bv:Value} {bs:List (ZaX × Value × Value)} {wr:World} (h:Zcu w I v l bv bs wr):∀ k,bv.ownBlock=some k->k<wr.heap.size:=fun k hk=>by
 obtain⟨c,hb⟩:=Zbv h.row hk
 exact hb.lt
theorem Zcu.below {w:World} {I:Nat->Prop} {v:Value} {l:List Int} {bv:Value} {bs:List (ZaX × Value × Value)} {wr w':World} (h:Zcu w I v l bv bs wr) (hb:Below wr.heap.size wr w'):Zcu w I v l bv bs w':=
 ⟨Zah h.row fun k hk=>hb.block k (h.ltB k hk),h.far,fun x hx=>(h.each x hx).below hb zL,h.ibs,h.lo,fun k hk=>Nat.lt_of_lt_of_le (h.ltI k hk) hb.size,h.dis,h.nms.below hb zL,h.old.trans (hb.mono h.old.size)⟩
theorem Zcu.add {w:World} {I:Nat->Prop} {v:Value} {l:List Int} {bv:Value} {bs:List (ZaX × Value × Value)} {wr W:World} (h:Zcu w I v l bv bs wr) (hW:Below wr.heap.size wr W) (x:ZaX × Value × Value) (hx:SnR W x)
 (hi:ZmJ (fun k=>wr.heap.size<=k∧k<W.heap.size) x) {bv':Value} {w':World} (hr:w'.ownsRow 0 41 6 bv' (bs++[x]).length (ZaQ (bs++[x]))) (hg:(W.alloc (.cells (snC x) 41)).grownBy w' bv.ownBlock) (hv:bv'.ownBlock=bv.ownBlock∨bv'.ownBlock=some (W.heap.size+1)):
 Zcu w (fun k=>I k∨(wr.heap.size<=k∧k<W.heap.size)) v l bv' (bs++[x]) w':=by
 have hsW:=hW.size
 have hso:=h.old.size
 have hsg:W.heap.size+1<=w'.heap.size:=by have:=hg.size;simpa using this
 have hk:∀ k,k<W.heap.size->bv.ownBlock≠some k->w'.heap[k]?=W.heap[k]?:=fun k hk hne=>by
  rw[hg.block k (by simp;omega) (fun e=>hne e.symm),Below.heap_alloc _ _ _ hk]
 have hW2:=h.below hW
 have hJ:∀ k,(I k∨(wr.heap.size<=k∧k<W.heap.size))->k<W.heap.size∧bv.ownBlock≠some k:=fun k hk=>by
  rcases hk with hk | hk
  ·exact⟨hW2.ltI k hk,h.dis k hk⟩
  ·refine⟨hk.2,fun e=>?_⟩
   have:=h.ltB k e
   omega
 refine⟨hr,fun k hk'=>?_,fun y hy=>?_,fun y hy=>?_,fun k hk'=>?_,fun k hk'=>?_,fun k hk' e=>?_,Zah hW2.nms fun k hk'=>?_,hW2.old.trans ?_⟩
 ·rcases hv with hv | hv
  ·exact h.far k (by rw[<-hv];exact hk')
  ·rw[hv] at hk'
   have:=Option.some.inj hk'
   omega
 ·rcases List.mem_append.1 hy with hy | hy
  ·exact(hW2.each y hy).keep (h.ibs y hy) fun g hg'=>hk g (hJ g (.inl hg')).1 (hJ g (.inl hg')).2
  ·rw[List.mem_singleton.1 hy]
   exact hx.keep hi fun g hg'=>hk g (hJ g (.inr hg')).1 (hJ g (.inr hg')).2
 ·rcases List.mem_append.1 hy with hy | hy
  ·exact(h.ibs y hy).mono fun k hk'=>.inl hk'
  ·rw[List.mem_singleton.1 hy]
   exact hi.mono fun k hk'=>.inr hk'
 ·rcases hk' with hk' | hk'
  ·exact h.lo k hk'
  ·omega
 ·have:=(hJ k hk').1
  omega
 ·have h2:=hJ k hk'
  rcases hv with hv | hv
  ·exact h2.2 (by rw[<-hv];exact e)
  ·rw[hv] at e
   have:=Option.some.inj e
   omega
 ·obtain⟨c,hb⟩:=Zbv hW2.nms hk'
  refine hk k hb.lt fun e=>?_
  obtain⟨c',hb'⟩:=Zbv hW2.row e
  exact(hb.ne hb' (by decide)) rfl
 ·exact(ZaE.trans (F:=fun k=>bv.ownBlock=some k) ((ZaE.refl _ W).alloc _) (ZaE.ofGrown (F:=fun k=>bv.ownBlock=some k) hg fun k e _=>e) (fun _ _ hf=>hf)).below (by omega) fun k e=>h.far k e
end Go.Proofs.YtnahjngbneicaaaGreatDoor
