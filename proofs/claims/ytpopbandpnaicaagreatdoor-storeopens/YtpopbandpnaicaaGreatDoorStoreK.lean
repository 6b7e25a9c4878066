import Derived.Test.YtpopbandpnaicaaGreatDoorPack8
import Derived.Test.YtpopbandpnaicaaGreatDoorPack4
import Derived.Test.YtpopbandpnaicaaGreatDoorPack7
import Derived.Test.YtpopbandpnaicaaGreatDoorPack6
import Derived.Test.YtpopbandpnaicaaGreatDoorPack5
import Derived.Test.YtpopbandpnaicaaGreatDoorPack1
import Derived.Deep.RegionHeld
import Derived.Deep.RegionHeld2
import Derived.Test.YtpopbandpnaicaaGreatDoorPack3
import Derived.Test.YtpopbandpnaicaaGreatDoorPack9
namespace Go.Proofs.YtpopbandpnaicaaGreatDoor
open Go.RowKit

def TabR (t : List Ent) : Prop := Rises t ∧ ∀ e ∈ t, 0 <= e.proc ∧ e.proc <= 64

theorem rises_len : ∀ (t : List Ent) (a : Int), Rises t -> (∀ e ∈ t, a <= e.proc ∧ e.proc <= 64) -> (t.length : Int) <= max 0 (65 - a)
 | [], a, _, _ => by simp only [List.length_nil]; omega
 | e :: t, a, h, hb => by
   unfold Rises at h
   rw [List.pairwise_cons] at h
   have h1 := hb e List.mem_cons_self
   have ih := rises_len t (e.proc + 1) h.2 (fun x hx => ⟨by have := h.1 x hx; omega, (hb x (List.mem_cons_of_mem _ hx)).2⟩)
   rw [List.length_cons]
   omega

theorem TabR.few {t : List Ent} (h : TabR t) : t.length <= 65 := by
 have := rises_len t 0 h.1 h.2
 omega

theorem TabR.note {t : List Ent} (h : TabR t) {e : Ent} (h0 : 0 <= e.proc) (h1 : e.proc <= 64) : TabR (noteL t e) := by
 refine ⟨noteL_rises h.1, fun x hx => ?_⟩
 rw [noteL_mem] at hx
 rcases hx with rfl | ⟨hx, _⟩
 · exact ⟨h0, h1⟩
 · exact h.2 x hx

theorem TabOk.tabR {t : List Ent} (h : TabOk t) : TabR t := ⟨h.rises, fun e he => by
 have := h.mem e he
 unfold EntOk at this
 omega⟩

def SnS (s : Snap) : Prop := MayS s.st ∧ TabR s.tab

theorem SnS.next {s : Snap} {r : Rec} (h : SnS s) (hf : FitsR r) : SnS (nextN s r) := by
 refine ⟨stepO_may h.1 r.op, ?_⟩
 obtain ⟨-, -, -, -, -, h0, h1, -⟩ := hf
 exact h.2.note h0 h1

theorem SnS.take : ∀ {l : List Rec} {s : Snap}, SnS s -> (takeN s l).2 = 0 -> SnS (takeN s l).1
 | [], _, h, _ => h
 | r :: l, s, h, h0 => by
   rw [takeN] at h0 ⊢
   split at h0
   · cases h0
   · rename_i h1
     rw [if_neg h1]
     split at h0
     · cases h0
     · rename_i h2
       rw [if_neg h2]
       exact SnS.take (h.next (by
         by_cases hf : FitsR r
         · exact hf
         · exact absurd hf h2)) h0

structure OkS (s : Sto) : Prop where
 log : OkG s.log
 nx : s.now.idx = s.next
 now : SnS s.now
 cur : s.cur ≠ 0 -> s.log.pcs.length ≠ 0
 sy : I64 s.synced
 cu : I64 s.cur

theorem OkS.num {s : Sto} (h : OkS s) : NumS s := ⟨h.log.f0, h.log.top, h.sy, h.cu⟩

theorem OkG.recOk {b : Lgb} (h : OkG b) : ∀ r ∈ b.recs, RecOk r := fun r hr => recOk_of_fits (h.fits r hr)

theorem SD.begin {K : Nat -> Prop} {w : World} {pd p : Nat} {s : Sto} {d : Dk} {N T : Nat} (h : SD K w pd p s d N T) (hK : ∀ k, K k -> k < w.heap.size) (name first : Int) (hlim : s.log.pcs.length <= 1000000) :
   Calls Tryz.prog 56 #[.pointer (some ⟨p, 1, none⟩), .int .i64 name, .int .i64 first] w fun e w' => e = .returned (.tuple #[]) ∧ SD K w' pd p { s with log := s.log.start name first } d N T ∧ Only (fun k => ¬ K k) w w' := by
 obtain ⟨F, M, I, L, h1, h2, h3, h4, h5, h6, h7⟩ := h
 refine (beginL_any 79 (by decide) (by decide) p 1 _ L.rv L.pv s.log name first w h2.toLog hlim).mono ?_
 rintro e w' ⟨he, hd⟩
 obtain ⟨M', L', g1, -, -, g2, g3⟩ := h2.ofLog hd
 exact ⟨he, SD.own hK h1 h3 h4 h5 h6 h7 g2 g1 g3 (fun _ hk => .inl hk)⟩

theorem SD.add {K : Nat -> Prop} {w : World} {pd p : Nat} {s : Sto} {d : Dk} {N T : Nat} (h : SD K w pd p s d N T) (hK : ∀ k, K k -> k < w.heap.size) (vl : Value) (l : List Rec) (hr : RdR w vl l) (hp0 : s.log.pcs.length ≠ 0) (hlim : s.log.pcs.length <= 1000000) (hrl : s.log.recs.length + l.length <= 10000000) (hst : ∀ q ∈ s.log.pcs, 0 <= q.stop ∧ q.stop <= 4611686018427387904) :
   Calls Tryz.prog 57 #[.pointer (some ⟨p, 1, none⟩), vl] w fun e w' => e = .returned (.tuple #[]) ∧ SD K w' pd p { s with log := s.log.add l } d N T ∧ Only (fun k => ¬ K k) w w' := by
 obtain ⟨F, M, I, L, h1, h2, h3, h4, h5, h6, h7⟩ := h
 refine (add_any 79 (by decide) (by decide) p 1 _ L.rv L.pv s.log vl l w h2.toLog hr hp0 hlim hrl hst).mono ?_
 rintro e w' ⟨he, hd⟩
 obtain ⟨M', L', g1, -, -, g2, g3⟩ := h2.ofLog hd
 exact ⟨he, SD.own hK h1 h3 h4 h5 h6 h7 g2 g1 g3 (fun _ hk => .inl hk)⟩

def sixAt (w : World) (p o : Nat) (x0 x1 x2 x3 x4 x5 : Value) : World := (((((w.setCell ⟨p, o, none⟩ x0).setCell ⟨p, o + 1, none⟩ x1).setCell ⟨p, o + 2, none⟩ x2).setCell ⟨p, o + 3, none⟩ x3).setCell ⟨p, o + 4, none⟩ x4).setCell ⟨p, o + 5, none⟩ x5

theorem sixAt_heap (w : World) (p o : Nat) (x0 x1 x2 x3 x4 x5 : Value) (k : Nat) (hk : k ≠ p) : (sixAt w p o x0 x1 x2 x3 x4 x5).heap[k]? = w.heap[k]? := by
 unfold sixAt
 rw [Below.heap_setCell _ _ _ _ hk, Below.heap_setCell _ _ _ _ hk, Below.heap_setCell _ _ _ _ hk, Below.heap_setCell _ _ _ _ hk, Below.heap_setCell _ _ _ _ hk, Below.heap_setCell _ _ _ _ hk]

theorem sixAt_only (w : World) (p o : Nat) (x0 x1 x2 x3 x4 x5 : Value) (M : Nat -> Prop) (hp : M p) : Only M w (sixAt w p o x0 x1 x2 x3 x4 x5) :=
 ((((((Only.refl M w).setCell (b := p) _ (fun _ => hp) _).setCell (b := p) _ (fun _ => hp) _).setCell (b := p) _ (fun _ => hp) _).setCell (b := p) _ (fun _ => hp) _).setCell (b := p) _ (fun _ => hp) _).setCell (b := p) _ (fun _ => hp) _

theorem SD.setNow {K : Nat -> Prop} {w W : World} {pd p : Nat} {s : Sto} {d : Dk} {N T : Nat} {F M I : Nat -> Prop} {L : SLay} (hK : ∀ k, K k -> k < w.heap.size) (h1 : Dsk F w pd d N T) (h2 : StoL M I w p pd L s) (h3 : ∀ k, F k -> ¬ K k) (h4 : ∀ k, M k -> ¬ K k) (h5 : ∀ k, I k -> ¬ K k) (h6 : ∀ k, F k -> ¬ M k) (h7 : ∀ k, F k -> ¬ I k)
   (hb : Below w.heap.size w W) (x : Snap × Value × Value) (hx : SnR W x) (hi : SnIn (fun k => I k ∨ (w.heap.size <= k ∧ k < W.heap.size)) x) :
   SD K (sixAt W p 5 (.int .i64 x.1.idx) (.int .i64 x.1.st.kind) x.2.1 (.bool x.1.st.shut) (.int .i64 x.1.st.eng) x.2.2) pd p { s with now := x.1 } d N T ∧
     Only (fun k => ¬ K k) w (sixAt W p 5 (.int .i64 x.1.idx) (.int .i64 x.1.st.kind) x.2.1 (.bool x.1.st.shut) (.int .i64 x.1.st.eng) x.2.2) := by
 obtain ⟨W2, hW2⟩ : ∃ W2, W2 = sixAt W p 5 (.int .i64 x.1.idx) (.int .i64 x.1.st.kind) x.2.1 (.bool x.1.st.shut) (.int .i64 x.1.st.eng) x.2.2 := ⟨_, rfl⟩
 rw [<- hW2]
 have hWL := h2.below hb
 have hk : ∀ k, k ≠ p -> W2.heap[k]? = W.heap[k]? := fun k hk => by rw [hW2]; exact sixAt_heap _ _ _ _ _ _ _ _ _ k hk
 have ho : Only M w W2 := (Only.ofBelow hb).trans (G := M) (by rw [hW2]; exact sixAt_only _ _ _ _ _ _ _ _ _ M h2.mh) (fun _ _ h => h)
 have hsz : W2.heap.size = W.heap.size := by rw [hW2]; unfold sixAt; simp
 have hpl : p < w.heap.size := h2.ltM p h2.mh
 have hhead : Bk 79 W2 p (stC pd { L with nl := x.2.1, nt := x.2.2 } { s with now := x.1 }) := by
   rw [hW2]
   exact (((((hWL.head.set 5 _).set 6 _).set 7 _).set 8 _).set 9 _).set 10 _
 have hne : ∀ {t : TypeId} {n sz g : Nat} {v : Value} {xs : List Value}, W.ownsRow 0 t sz v n xs -> v.ownBlock = some g -> t ≠ 79 -> g ≠ p := fun hr hg ht => by
   obtain ⟨cs', hb⟩ := ownBkP hr hg
   exact hb.ne hWL.head ht
 have hI : ∀ k, (I k ∨ (w.heap.size <= k ∧ k < W.heap.size)) -> W2.heap[k]? = W.heap[k]? := fun k hk' => hk k (fun e => by
   subst e
   rcases hk' with h | h
   · exact h2.dis _ h2.mh h
   · omega)
 refine SD.own (I' := fun k => I k ∨ (w.heap.size <= k ∧ k < W.heap.size)) (M' := M) (L' := { L with nl := x.2.1, nt := x.2.2 }) hK h1 h3 h4 h5 h6 h7 ho ⟨hhead, ownsRow_keep hWL.recs fun g hg => hk g (hne hWL.recs hg (by decide)), ownsRow_keep hWL.pcs fun g hg => hk g (hne hWL.pcs hg (by decide)), ownsRow_keep hWL.bases fun g hg => hk g (hne hWL.bases hg (by decide)), hWL.bsEq, hx.keep hi hI, fun y hy => (hWL.base y hy).keep (hWL.ibase y hy) (fun g hg => hI g (.inl hg)), h2.mh, h2.mr, h2.mp, h2.mb, hi, fun y hy => (h2.ibase y hy).mono (fun k hk => .inl hk), fun k hm => ?_, fun k hm => ?_, fun k hm hi => ?_⟩ (fun _ hk => .inl hk) (fun k hk => ?_)
 · rw [hsz]; exact Nat.lt_of_lt_of_le (h2.ltM k hm) hb.size
 · rw [hsz]
   rcases hm with hm | hm
   · exact Nat.lt_of_lt_of_le (h2.ltI k hm) hb.size
   · exact hm.2
 · rcases hi with hi | hi
   · exact h2.dis k hm hi
   · have := h2.ltM k hm
     omega
 · rcases hk with hk | hk
   · exact .inl hk
   · exact .inr hk.1

end Go.Proofs.YtpopbandpnaicaaGreatDoor
