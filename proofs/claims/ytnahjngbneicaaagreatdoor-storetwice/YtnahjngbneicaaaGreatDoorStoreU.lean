import Derived.Test.YtnahjngbneicaaaGreatDoorStoreT
namespace Go.Proofs.YtnahjngbneicaaaGreatDoor
open _root_.Go.Proofs.Tryz
set_option maxRecDepth 100000
open Go.RowKit
def ZzU (w:World) (s:St) (e:Ending) (w':World):Prop:=∃ vl,e=.returned (.agg #[.int .i64 s.kind,vl,.bool s.shut,.int .i64 s.eng])∧RdI w' vl s.L∧I64 s.kind∧I64 s.eng∧(∀ b,vl.ownBlock=some b->w.heap.size<=b)∧Below w.heap.size w w'
set_option maxHeartbeats 2000000 in
theorem ZvH (kind:Int) (w:World):Calls prog 16 #[.int .i64 kind] w fun e w'=>ZzU w (Zdd kind) e w':=by
 have l:I64 0:=Zai (by decide) (by decide)
 have f:Hid (∀ x,Below w.heap.size w (w.alloc x)):=fun x=>(Below.refl _ _).alloc zL x
 have m:Hid (∀ x y,Below w.heap.size w ((w.alloc x).alloc y)):=fun x y=>(f.o x).alloc (by simp) y
 have c:=Zac l;clear l;by_cases i:kind<0∨6<=kind
 ·have d:Hid (Zdd kind=⟨0,[],false,0⟩):=if_pos i
  rw[d.o];have B:(kind == 0)=false:=beq_eq_false_iff_ne.2 (by omega)
  have A:(kind == 1)=false:=beq_eq_false_iff_ne.2 (by omega)
  have u:(kind == 2)=false:=beq_eq_false_iff_ne.2 (by omega)
  have z:(kind == 3)=false:=beq_eq_false_iff_ne.2 (by omega)
  have t:(kind == 4)=false:=beq_eq_false_iff_ne.2 (by omega)
  have q:(kind == 5)=false:=beq_eq_false_iff_ne.2 (by omega)
  clear i d
  go_enter func16,ntmps16
  go_wp2;refine bodyPost_ret (v:=.agg #[.int .i64 0,.slice none 0 0,.bool false,.int .i64 0]) (by simp[results,Tryz.results16,go_sem]) rfl ?_
  exact⟨_,rfl,RdI.nil _,c.o,c.o,(fun b a=>by cases a),f.o _⟩
 ·have g:Hid (I64 kind):=Zai (by omega) (by omega)
  by_cases j:kind<=1
  ·have d:Hid (Zdd kind=⟨kind,[0],false,0⟩):=by
    unfold Zdd;rw[if_neg i,if_pos j];exact rfl
   rw[d.o];have k:kind=0∨kind=1:=by omega
   clear i j d
   have n:Hid (∀ x,RdI ((w.alloc x).alloc (.cells #[.int .i64 0] 3)) (.slice (some ⟨w.heap.size+1,0,none⟩) 1 1) [0]):=fun x=>by
    have h:=RdI.one (w.alloc x) 0 c.o;have e:(w.alloc x).heap.size=w.heap.size+1:=by simp
    rwa [e] at h
   rcases k with rfl | rfl
   ·go_enter func16,ntmps16
    go_wp2;refine bodyPost_ret (v:=.agg #[.int .i64 0,.slice (some ⟨w.heap.size+1,0,none⟩) 1 1,.bool false,.int .i64 0]) (by simp[results,Tryz.results16,go_sem]) rfl ?_
    exact⟨_,rfl,n.o _,g.o,c.o,(fun b a=>by have p:w.heap.size+1=b:=Option.some.inj a;omega),m.o _ _⟩
   ·go_enter func16,ntmps16
    go_wp2;refine bodyPost_ret (v:=.agg #[.int .i64 1,.slice (some ⟨w.heap.size+1,0,none⟩) 1 1,.bool false,.int .i64 0]) (by simp[results,Tryz.results16,go_sem]) rfl ?_
    exact⟨_,rfl,n.o _,g.o,c.o,(fun b a=>by have p:w.heap.size+1=b:=Option.some.inj a;omega),m.o _ _⟩
  ·have d:Hid (Zdd kind=⟨kind,[],false,0⟩):=by
    unfold Zdd;rw[if_neg i,if_neg j];exact rfl
   rw[d.o];have k:kind=2∨kind=3∨kind=4∨kind=5:=by omega
   clear i j d;rcases k with rfl | rfl | rfl | rfl
   ·go_enter func16,ntmps16
    go_wp2;refine bodyPost_ret (v:=.agg #[.int .i64 2,.slice none 0 0,.bool false,.int .i64 0]) (by simp[results,Tryz.results16,go_sem]) rfl ?_
    exact⟨_,rfl,RdI.nil _,g.o,c.o,(fun b a=>by cases a),f.o _⟩
   ·go_enter func16,ntmps16
    go_wp2;refine bodyPost_ret (v:=.agg #[.int .i64 3,.slice none 0 0,.bool false,.int .i64 0]) (by simp[results,Tryz.results16,go_sem]) rfl ?_
    exact⟨_,rfl,RdI.nil _,g.o,c.o,(fun b a=>by cases a),f.o _⟩
   ·go_enter func16,ntmps16
    go_wp2;refine bodyPost_ret (v:=.agg #[.int .i64 4,.slice none 0 0,.bool false,.int .i64 0]) (by simp[results,Tryz.results16,go_sem]) rfl ?_
    exact⟨_,rfl,RdI.nil _,g.o,c.o,(fun b a=>by cases a),f.o _⟩
   ·go_enter func16,ntmps16
    go_wp2;refine bodyPost_ret (v:=.agg #[.int .i64 5,.slice none 0 0,.bool false,.int .i64 0]) (by simp[results,Tryz.results16,go_sem]) rfl ?_
    exact⟨_,rfl,RdI.nil _,g.o,c.o,(fun b a=>by cases a),f.o _⟩
structure Zdb (w:World) (I:Nat->Prop) (v:Value) (l:List Int) (bv:Value) (bs:List (ZaW × Value × Value)) (wr:World):Prop where
 row:wr.ownsRow 0 41 6 bv bs.length (ZaN bs)
 far:∀ k,bv.ownBlock=some k->w.heap.size<=k
 each:∀ x ∈ bs,SnR wr x
 ibs:∀ x ∈ bs,ZoR I x
 lo:∀ k,I k->w.heap.size<=k
 ltI:∀ k,I k->k<wr.heap.size
 dis:∀ k,I k->bv.ownBlock≠some k
 nms:ZaB wr w.heap.size v l
 old:Below w.heap.size w wr
theorem Zdb.ltB {w:World} {I:Nat->Prop} {v:Value} {l:List Int} {bv:Value} {bs:List (ZaW × Value × Value)} {a:World} (h:Zdb w I v l bv bs a):∀ k,bv.ownBlock=some k->k<a.heap.size:=fun k b=>by
 obtain⟨c,d⟩:=ZaR h.row b;exact d.lt
theorem Zdb.below {w:World} {I:Nat->Prop} {v:Value} {l:List Int} {bv:Value} {bs:List (ZaW × Value × Value)} {b w':World} (h:Zdb w I v l bv bs b) (a:Below b.heap.size b w'):Zdb w I v l bv bs w':=
 ⟨Zae h.row fun k c=>a.block k (h.ltB k c),h.far,fun x d=>(h.each x d).below a zL,h.ibs,h.lo,fun k c=>Nat.lt_of_lt_of_le (h.ltI k c) a.size,h.dis,h.nms.below a zL,h.old.trans (a.mono h.old.size)⟩
theorem Zdb.add {w:World} {I:Nat->Prop} {v:Value} {l:List Int} {bv:Value} {bs:List (ZaW × Value × Value)} {b W:World} (h:Zdb w I v l bv bs b) (n:Below b.heap.size b W) (x:ZaW × Value × Value) (q:SnR W x)
 (m:ZoR (fun k=>b.heap.size<=k∧k<W.heap.size) x) {i:Value} {w':World} (B:w'.ownsRow 0 41 6 i (bs++[x]).length (ZaN (bs++[x]))) (j:(W.alloc (.cells (snC x) 41)).grownBy w' bv.ownBlock) (hv:i.ownBlock=bv.ownBlock∨i.ownBlock=some (W.heap.size+1)):
 Zdb w (fun k=>I k∨(b.heap.size<=k∧k<W.heap.size)) v l i (bs++[x]) w':=by
 have E:=n.size;have C:=h.old.size;have D:W.heap.size+1<=w'.heap.size:=by have:=j.size;simpa using this
 have hk:∀ k,k<W.heap.size->bv.ownBlock≠some k->w'.heap[k]?=W.heap[k]?:=fun k hk u=>by
  rw[j.block k (by simp;omega) (fun e=>u e.symm),Below.heap_alloc _ _ _ hk]
 have d:=h.below n
 have a:∀ k,(I k∨(b.heap.size<=k∧k<W.heap.size))->k<W.heap.size∧bv.ownBlock≠some k:=fun k hk=>by
  rcases hk with hk | hk
  ·exact⟨d.ltI k hk,h.dis k hk⟩
  ·refine⟨hk.2,fun e=>?_⟩
   have:=h.ltB k e;omega
 refine⟨B,fun k hk'=>?_,fun y hy=>?_,fun y hy=>?_,fun k hk'=>?_,fun k hk'=>?_,fun k hk' e=>?_,Zae d.nms fun k hk'=>?_,d.old.trans ?_⟩
 ·rcases hv with hv | hv
  ·exact h.far k (by rw[<-hv];exact hk')
  ·rw[hv] at hk'
   have:=Option.some.inj hk';omega
 ·rcases List.mem_append.1 hy with hy | hy
  ·exact(d.each y hy).keep (h.ibs y hy) fun g f=>hk g (a g (.inl f)).1 (a g (.inl f)).2
  ·rw[List.mem_singleton.1 hy]
   exact q.keep m fun g f=>hk g (a g (.inr f)).1 (a g (.inr f)).2
 ·rcases List.mem_append.1 hy with hy | hy
  ·exact(h.ibs y hy).mono fun k hk'=>.inl hk'
  ·rw[List.mem_singleton.1 hy]
   exact m.mono fun k hk'=>.inr hk'
 ·rcases hk' with hk' | hk'
  ·exact h.lo k hk'
  ·omega
 ·have:=(a k hk').1
  omega
 ·have A:=a k hk'
  rcases hv with hv | hv
  ·exact A.2 (by rw[<-hv];exact e)
  ·rw[hv] at e
   have:=Option.some.inj e;omega
 ·obtain⟨c,p⟩:=ZaR d.nms hk'
  refine hk k p.lt fun e=>?_
  obtain⟨c',t⟩:=ZaR d.row e;exact(p.ne t (by decide)) rfl
 ·exact(Zap.trans (F:=fun k=>bv.ownBlock=some k) ((Zap.refl _ W).alloc _) (Zap.ofGrown (F:=fun k=>bv.ownBlock=some k) j fun k e _=>e) (fun _ _ z=>z)).below (by omega) fun k e=>h.far k e
end Go.Proofs.YtnahjngbneicaaaGreatDoor
