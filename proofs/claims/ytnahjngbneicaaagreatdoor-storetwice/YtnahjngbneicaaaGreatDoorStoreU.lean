import Derived.Test.YtnahjngbneicaaaGreatDoorStoreT
namespace Go.Proofs.YtnahjngbneicaaaGreatDoor
open _root_.Go.Proofs.Tryz
set_option maxRecDepth 100000
open Go.RowKit
variable {w wr:World} {I:Nat->Prop} {bv v:Value} {l:List Int} {bs:List (Qv × Value × Value)}
def ZwE (w:World) (s:St) (e:Ending) (w':World):Prop:=∃ vl,e=.returned (.agg #[.int .i64 s.kind,vl,.bool s.shut,.int .i64 s.eng])∧RdI w' vl s.L∧I64 s.kind∧I64 s.eng∧(∀ b,vl.ownBlock=some b->w.heap.size<=b)∧Below w.heap.size w w'
set_option maxHeartbeats 2000000 in
theorem Zsr (kind:Int) (w:World):Calls prog 16 #[.int .i64 kind] w fun e w'=>ZwE w (Jo kind) e w':=by
 have n:I64 0:=Qk (by decide) (by decide)
 have i:Hid (∀ x,Below w.heap.size w (w.alloc x)):=fun x=>(Below.refl _ _).alloc zL x
 have m:Hid (∀ x y,Below w.heap.size w ((w.alloc x).alloc y)):=fun x y=>(i.o x).alloc (by simp) y
 have c:=Qc n;clear n;by_cases g:kind<0∨6<=kind
 ·have d:Hid (Jo kind=⟨0,[],false,0⟩):=if_pos g
  rw[d.o];have u:(kind == 0)=false:=beq_eq_false_iff_ne.2 (by omega)
  have q:(kind == 1)=false:=beq_eq_false_iff_ne.2 (by omega)
  have z:(kind == 2)=false:=beq_eq_false_iff_ne.2 (by omega)
  have B:(kind == 3)=false:=beq_eq_false_iff_ne.2 (by omega)
  have t:(kind == 4)=false:=beq_eq_false_iff_ne.2 (by omega)
  have A:(kind == 5)=false:=beq_eq_false_iff_ne.2 (by omega)
  clear g d
  go_enter func16,ntmps16
  go_wp2;refine bodyPost_ret (v:=.agg #[.int .i64 0,.slice none 0 0,.bool false,.int .i64 0]) (by simp[results,Tryz.results16,go_sem]) rfl ?_
  exact⟨_,rfl,RdI.nil _,c.out,c.out,(fun b a=>by cases a),i.o _⟩
 ·have f:Hid (I64 kind):=Qk (by omega) (by omega)
  by_cases j:kind<=1
  ·have d:Hid (Jo kind=⟨kind,[0],false,0⟩):=by
    unfold Jo;rw[if_neg g,if_pos j];exact rfl
   rw[d.o];have k:kind=0∨kind=1:=by omega
   clear g j d
   have l:Hid (∀ x,RdI ((w.alloc x).alloc (.cells #[.int .i64 0] 3)) (.slice (some ⟨w.heap.size+1,0,none⟩) 1 1) [0]):=fun x=>by
    have h:=RdI.one (w.alloc x) 0 c.out;have e:(w.alloc x).heap.size=w.heap.size+1:=by simp
    rwa [e] at h
   rcases k with rfl | rfl
   ·go_enter func16,ntmps16
    go_wp2;refine bodyPost_ret (v:=.agg #[.int .i64 0,.slice (some ⟨w.heap.size+1,0,none⟩) 1 1,.bool false,.int .i64 0]) (by simp[results,Tryz.results16,go_sem]) rfl ?_
    exact⟨_,rfl,l.o _,f.o,c.out,(fun b a=>by have p:w.heap.size+1=b:=Option.some.inj a;omega),m.o _ _⟩
   ·go_enter func16,ntmps16
    go_wp2;refine bodyPost_ret (v:=.agg #[.int .i64 1,.slice (some ⟨w.heap.size+1,0,none⟩) 1 1,.bool false,.int .i64 0]) (by simp[results,Tryz.results16,go_sem]) rfl ?_
    exact⟨_,rfl,l.o _,f.o,c.out,(fun b a=>by have p:w.heap.size+1=b:=Option.some.inj a;omega),m.o _ _⟩
  ·have d:Hid (Jo kind=⟨kind,[],false,0⟩):=by
    unfold Jo;rw[if_neg g,if_neg j];exact rfl
   rw[d.o];have k:kind=2∨kind=3∨kind=4∨kind=5:=by omega
   clear g j d;rcases k with rfl | rfl | rfl | rfl
   ·go_enter func16,ntmps16
    go_wp2;refine bodyPost_ret (v:=.agg #[.int .i64 2,.slice none 0 0,.bool false,.int .i64 0]) (by simp[results,Tryz.results16,go_sem]) rfl ?_
    exact⟨_,rfl,RdI.nil _,f.o,c.out,(fun b a=>by cases a),i.o _⟩
   ·go_enter func16,ntmps16
    go_wp2;refine bodyPost_ret (v:=.agg #[.int .i64 3,.slice none 0 0,.bool false,.int .i64 0]) (by simp[results,Tryz.results16,go_sem]) rfl ?_
    exact⟨_,rfl,RdI.nil _,f.o,c.out,(fun b a=>by cases a),i.o _⟩
   ·go_enter func16,ntmps16
    go_wp2;refine bodyPost_ret (v:=.agg #[.int .i64 4,.slice none 0 0,.bool false,.int .i64 0]) (by simp[results,Tryz.results16,go_sem]) rfl ?_
    exact⟨_,rfl,RdI.nil _,f.o,c.out,(fun b a=>by cases a),i.o _⟩
   ·go_enter func16,ntmps16
    go_wp2;refine bodyPost_ret (v:=.agg #[.int .i64 5,.slice none 0 0,.bool false,.int .i64 0]) (by simp[results,Tryz.results16,go_sem]) rfl ?_
    exact⟨_,rfl,RdI.nil _,f.o,c.out,(fun b a=>by cases a),i.o _⟩
structure Jr (w:World) (I:Nat->Prop) (v:Value) (l:List Int) (bv:Value) (bs:List (Qv × Value × Value)) (wr:World):Prop where
 row:wr.ownsRow 0 41 6 bv bs.length (Xh bs)
 far:∀ k,bv.ownBlock=some k->w.heap.size<=k
 each:∀ x ∈ bs,SnR wr x
 ibs:∀ x ∈ bs,ZlB I x
 lo:∀ k,I k->w.heap.size<=k
 ltI:∀ k,I k->k<wr.heap.size
 dis:∀ k,I k->bv.ownBlock≠some k
 nms:Qo wr w.heap.size v l
 old:Below w.heap.size w wr
theorem Jr.ltB (h:Jr w I v l bv bs wr):∀ k,bv.ownBlock=some k->k<wr.heap.size:=fun k b=>by
 obtain⟨c,a⟩:=Xm h.row b;exact a.lt
theorem Jr.below {w':World} (h:Jr w I v l bv bs wr) (a:Below wr.heap.size wr w'):Jr w I v l bv bs w':=
 ⟨Qh h.row fun k b=>a.block k (h.ltB k b),h.far,fun x c=>(h.each x c).below a zL,h.ibs,h.lo,fun k b=>Nat.lt_of_lt_of_le (h.ltI k b) a.size,h.dis,h.nms.below a zL,h.old.trans (a.mono h.old.size)⟩
theorem Jr.add {W:World} (h:Jr w I v l bv bs wr) (m:Below wr.heap.size wr W) (x:Qv × Value × Value) (z:SnR W x)
 (n:ZlB (fun k=>wr.heap.size<=k∧k<W.heap.size) x) {f:Value} {w':World} (t:w'.ownsRow 0 41 6 f (bs++[x]).length (Xh (bs++[x]))) (i:(W.alloc (.cells (snC x) 41)).grownBy w' bv.ownBlock) (hv:f.ownBlock=bv.ownBlock∨f.ownBlock=some (W.heap.size+1)):
 Jr w (fun k=>I k∨(wr.heap.size<=k∧k<W.heap.size)) v l f (bs++[x]) w':=by
 have B:=m.size;have C:=h.old.size;have D:W.heap.size+1<=w'.heap.size:=by have:=i.size;simpa using this
 have hk:∀ k,k<W.heap.size->bv.ownBlock≠some k->w'.heap[k]?=W.heap[k]?:=fun k hk q=>by
  rw[i.block k (by simp;omega) (fun e=>q e.symm),Below.heap_alloc _ _ _ hk]
 have a:=h.below m
 have b:∀ k,(I k∨(wr.heap.size<=k∧k<W.heap.size))->k<W.heap.size∧bv.ownBlock≠some k:=fun k hk=>by
  rcases hk with hk | hk
  ·exact⟨a.ltI k hk,h.dis k hk⟩
  ·refine⟨hk.2,fun e=>?_⟩
   have:=h.ltB k e;omega
 refine⟨t,fun k hk'=>?_,fun y hy=>?_,fun y hy=>?_,fun k hk'=>?_,fun k hk'=>?_,fun k hk' e=>?_,Qh a.nms fun k hk'=>?_,a.old.trans ?_⟩
 ·rcases hv with hv | hv
  ·exact h.far k (by rw[<-hv];exact hk')
  ·rw[hv] at hk'
   have:=Option.some.inj hk';omega
 ·rcases List.mem_append.1 hy with hy | hy
  ·exact(a.each y hy).keep (h.ibs y hy) fun g d=>hk g (b g (.inl d)).1 (b g (.inl d)).2
  ·rw[List.mem_singleton.1 hy]
   exact z.keep n fun g d=>hk g (b g (.inr d)).1 (b g (.inr d)).2
 ·rcases List.mem_append.1 hy with hy | hy
  ·exact(h.ibs y hy).mono fun k hk'=>.inl hk'
  ·rw[List.mem_singleton.1 hy]
   exact n.mono fun k hk'=>.inr hk'
 ·rcases hk' with hk' | hk'
  ·exact h.lo k hk'
  ·omega
 ·have:=(b k hk').1
  omega
 ·have p:=b k hk'
  rcases hv with hv | hv
  ·exact p.2 (by rw[<-hv];exact e)
  ·rw[hv] at e
   have:=Option.some.inj e;omega
 ·obtain⟨c,j⟩:=Xm a.nms hk'
  refine hk k j.lt fun e=>?_
  obtain⟨c',u⟩:=Xm a.row e;exact(j.ne u (by decide)) rfl
 ·exact(Qj.trans (F:=fun k=>bv.ownBlock=some k) ((Qj.refl _ W).alloc _) (Qj.ofGrown (F:=fun k=>bv.ownBlock=some k) i fun k e _=>e) (fun _ _ A=>A)).below (by omega) fun k e=>h.far k e
end Go.Proofs.YtnahjngbneicaaaGreatDoor
