/- What follows of disks, as plain data. -/
import Derived.Test.YtfphllhcoiblkaaFilesSum
namespace Go.Proofs.Ytfphllhcoiblkaa

theorem mayN_iff (n : Int) : mayN n = true ↔ 0 ≤ n ∧ n < 1048576 := by simp [mayN]

/-- A disk that is dark does nothing. -/
theorem dark_append {d : Dk} (h : d.power = 0) (n : Int) (b : List UInt8) : appendD d n b = (d, 11) := by unfold appendD; rw [if_pos h]
theorem dark_read {d : Dk} (h : d.power = 0) (n : Int) : readD d n = ([], 11) := by unfold readD; rw [if_pos h]
theorem dark_sync {d : Dk} (h : d.power = 0) (n : Int) : syncD d n = (d, 11) := by unfold syncD; rw [if_pos h]
theorem dark_rename {d : Dk} (h : d.power = 0) (n m : Int) : renameD d n m = (d, 11) := by unfold renameD; rw [if_pos h]
theorem dark_remove {d : Dk} (h : d.power = 0) (n : Int) : removeD d n = (d, 11) := by unfold removeD; rw [if_pos h]
theorem dark_syncDir {d : Dk} (h : d.power = 0) : syncDirD d = (d, 11) := by unfold syncDirD; rw [if_pos h]

theorem tick_neg {p : Int} (h : p < 0) : tick p = p := by unfold tick; rw [if_neg (by omega)]

/-- The room is never passed. -/
theorem room_append {d : Dk} (h : OkD d) (n : Int) (b : List UInt8) :
    (appendD d n b).1.room = d.room ∧
    ((appendD d n b).2 = 0 ∧ (usedD (appendD d n b).1 : Int) = usedD d + b.length ∧ (usedD d : Int) + b.length ≤ d.room ∨
     (appendD d n b).2 ≠ 0 ∧ (appendD d n b).1 = d ∧ ((appendD d n b).2 = 10 → (usedD d : Int) + b.length > d.room)) := by
  unfold appendD
  by_cases h0 : d.power = 0
  · rw [if_pos h0]; exact ⟨rfl, .inr ⟨by simp, rfl, by simp⟩⟩
  rw [if_neg h0]
  by_cases h1 : mayN n = false
  · rw [if_pos h1]; exact ⟨rfl, .inr ⟨by simp, rfl, by simp⟩⟩
  rw [if_neg h1]
  by_cases h2 : (usedD d : Int) + b.length > d.room
  · rw [if_pos h2]; exact ⟨rfl, .inr ⟨by simp, rfl, fun _ => h2⟩⟩
  rw [if_neg h2]
  cases e : look (dirD d) n with
  | some f =>
    refine ⟨rfl, .inl ⟨rfl, ?_, by omega⟩⟩
    show (usedD (appendTo d f b) : Int) = _
    rw [usedD_grow h e b]
    omega
  | none =>
    refine ⟨rfl, .inl ⟨rfl, ?_, by omega⟩⟩
    show (usedD (appendTo (freshD d n) d.files.length b) : Int) = _
    rw [usedD_grow (h.fresh (by simpa using h1)) (look_fresh h n) b, usedD_fresh h e]
    omega

theorem room_rename {d : Dk} (h : OkD d) (n m : Int) : (renameD d n m).1.room = d.room ∧ usedD (renameD d n m).1 ≤ usedD d := by
  unfold renameD
  by_cases h0 : d.power = 0
  · rw [if_pos h0]; exact ⟨rfl, Nat.le_refl _⟩
  rw [if_neg h0]
  cases e : look (dirD d) n with
  | none => exact ⟨rfl, Nat.le_refl _⟩
  | some f =>
    dsimp only
    by_cases h1 : mayN m = false
    · rw [if_pos h1]; exact ⟨rfl, Nat.le_refl _⟩
    rw [if_neg h1]
    by_cases h2 : n = m
    · rw [if_pos h2]; exact ⟨rfl, Nat.le_refl _⟩
    rw [if_neg h2]
    have := usedD_move h h2 e (tick d.power)
    exact ⟨rfl, by dsimp only; omega⟩

theorem room_remove {d : Dk} (h : OkD d) (n : Int) : (removeD d n).1.room = d.room ∧ usedD (removeD d n).1 ≤ usedD d := by
  unfold removeD
  by_cases h0 : d.power = 0
  · rw [if_pos h0]; exact ⟨rfl, Nat.le_refl _⟩
  rw [if_neg h0]
  cases e : look (dirD d) n with
  | none => exact ⟨rfl, Nat.le_refl _⟩
  | some f =>
    have := usedD_take h e (tick d.power)
    exact ⟨rfl, by dsimp only; omega⟩

/-- Without a Cut the power stays. -/
theorem lit_append {d : Dk} (h : d.power = -1) (n : Int) (b : List UInt8) : (appendD d n b).1.power = -1 := by
  unfold appendD
  have ht : tick (-1) = -1 := tick_neg (by omega)
  rw [if_neg (by omega)]
  split
  · exact h
  · split
    · exact h
    · split
      · show tick d.power = -1; rw [h, ht]
      · show tick d.power = -1; rw [h, ht]

theorem lit_rename {d : Dk} (h : d.power = -1) (n m : Int) : (renameD d n m).1.power = -1 := by
  unfold renameD
  have ht : tick (-1) = -1 := tick_neg (by omega)
  rw [if_neg (by omega)]
  split
  · split
    · exact h
    · split
      · show tick d.power = -1; rw [h, ht]
      · show tick d.power = -1; rw [h, ht]
  · exact h

theorem lit_remove {d : Dk} (h : d.power = -1) (n : Int) : (removeD d n).1.power = -1 := by
  unfold removeD
  have ht : tick (-1) = -1 := tick_neg (by omega)
  rw [if_neg (by omega)]
  split
  · show tick d.power = -1; rw [h, ht]
  · exact h

/-- With the power on, just what there is is read. -/
theorem read_lit {d : Dk} (h : d.power ≠ 0) (n : Int) : ((readD d n).2 = 0 ↔ (look (dirD d) n).isSome = true) ∧ (readD d n).1.length = lenO d.files (look (dirD d) n) := by
  unfold readD
  rw [if_neg h]
  cases e : look (dirD d) n with
  | some f => exact ⟨⟨fun _ => rfl, fun _ => rfl⟩, rfl⟩
  | none => exact ⟨⟨(by intro hh; simp at hh), (by intro hh; cases hh)⟩, rfl⟩

end Go.Proofs.Ytfphllhcoiblkaa
