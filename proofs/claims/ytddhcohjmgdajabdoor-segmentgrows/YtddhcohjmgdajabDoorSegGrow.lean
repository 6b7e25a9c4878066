/- Of a segment: what its parts are when it is written block by block. -/
import Derived.Test.YtddhcohjmgdajabDoorSegSmall
namespace Go.Proofs.YtddhcohjmgdajabDoor

theorem bs_app (a b : List UInt8) : bs a ++ bs b = bs (a ++ b) := by
  apply ByteArray.ext
  rw [ByteArray.data_append]
  simp [bs]

theorem body_of {v : Nat} (h1 : 1 ≤ v) (h3 : v ≤ 3) {c : List Rec} {f : Int} (hr : RecsOk c f) : bodyErr v c = 0 ∧ bodyL v c = framesOf (blocksS v c) := by
  have hok : RecsOk c (c.headD zeroR).idx := by
    cases c with
    | nil => exact ⟨hr.1, hr.2.1, trivial⟩
    | cons r t =>
      have e : r.idx = f := hr.2.2.1
      show RecsOk (r :: t) r.idx
      rw [e]
      exact hr
  have hv : 1 ≤ (v : Int) ∧ (v : Int) ≤ 3 := ⟨by omega, by omega⟩
  unfold bodyErr bodyL
  rw [if_pos hv, if_pos hv, if_pos hok, if_pos hok, Int.toNat_natCast]
  exact ⟨rfl, rfl⟩

theorem body_cases (v : Int) (l : List Rec) : bodyErr v l ≠ 0 ∨ ∃ n : Nat, v = (n : Int) ∧ 1 ≤ n ∧ n ≤ 3 ∧ RecsOk l (l.headD zeroR).idx := by
  unfold bodyErr
  by_cases hv : 1 ≤ v ∧ v ≤ 3
  · rw [if_pos hv]
    by_cases hm : RecsOk l (l.headD zeroR).idx
    · exact .inr ⟨v.toNat, by omega, by omega, by omega, hm⟩
    · rw [if_neg hm]
      exact .inl (by decide)
  · rw [if_neg hv]
    exact .inl (by decide)

theorem recsOk_two {l : List Rec} {i : Int} (h : RecsOk l i) (k : Nat) (hk : 16 * k ≤ l.length) : RecsOk (l.take (16 * k)) i ∧ RecsOk (l.drop (16 * k)) (i + (16 * k : Nat)) := by
  rw [← List.take_append_drop (16 * k) l] at h
  have h2 := recsOk_app h
  have e : (l.take (16 * k)).length = 16 * k := by rw [List.length_take]; omega
  rw [e] at h2
  exact h2

theorem frames_two (v : Nat) (l : List Rec) (k : Nat) (hk : 16 * k ≤ l.length) : framesOf (blocksS v l) = framesOf (blocksS v (l.take (16 * k))) ++ framesOf (blocksS v (l.drop (16 * k))) := by
  have e : (l.take (16 * k)).length = 16 * k := by rw [List.length_take]; omega
  have h := blocks_app v k (l.take (16 * k)) (l.drop (16 * k)) e
  rw [List.take_append_drop] at h
  rw [h, framesOf_app]

/-- What is recovered of the head and the first blocks. -/
theorem rec_grow {v : Nat} (h1 : 1 ≤ v) (h3 : v ≤ 3) {s : Seg} (hm : MayG s) (k : Nat) :
    recS8 (frameOf (headS v s.kind.toNat s.first.toNat) ++ framesOf (blocksS v (s.recs.take (16 * k)))) = (upgG v ⟨s.kind, s.first, s.recs.take (16 * k)⟩, (frameOf (headS v s.kind.toNat s.first.toNat)).length + (framesOf (blocksS v (s.recs.take (16 * k)))).length, true) := by
  have h := recS8_all h1 h3 (mayG_take hm (16 * k))
  simp only at h
  rw [framesOf_cons, List.length_append] at h
  exact h

theorem rec_whole {v : Nat} (h1 : 1 ≤ v) (h3 : v ≤ 3) {s : Seg} (hm : MayG s) (k : Nat) (hk : 16 * k ≤ s.recs.length) :
    recS8 (frameOf (headS v s.kind.toNat s.first.toNat) ++ framesOf (blocksS v (s.recs.take (16 * k))) ++ framesOf (blocksS v (s.recs.drop (16 * k)))) = (upgG v s, (frameOf (headS v s.kind.toNat s.first.toNat)).length + (framesOf (blocksS v (s.recs.take (16 * k)))).length + (framesOf (blocksS v (s.recs.drop (16 * k)))).length, true) := by
  have h := recS8_all h1 h3 hm
  rw [framesOf_cons, List.length_append, frames_two v s.recs k hk, List.length_append, ← List.append_assoc, ← Nat.add_assoc] at h
  exact h

/-- How long these are. -/
theorem grow_len {v : Nat} {s : Seg} (k : Nat) (hk : 16 * k ≤ s.recs.length) :
    (frameOf (headS v s.kind.toNat s.first.toNat)).length + (framesOf (blocksS v (s.recs.take (16 * k)))).length + (framesOf (blocksS v (s.recs.drop (16 * k)))).length ≤ (encS8 v s).length := by
  unfold encS8 partsS
  rw [framesOf_cons, framesOf_app, frames_two v s.recs k hk, List.length_append, List.length_append, List.length_append]
  omega

end Go.Proofs.YtddhcohjmgdajabDoor
