/- The names of a disk, read one behind the other, as plain data. -/
import Derived.Test.YtfphllhcoiblkaaFilesLawM
namespace Go.Proofs.Ytfphllhcoiblkaa

theorem any_look (n : Int) : ∀ l : Dir, (look l n).isSome = l.any (fun q => q.1 == n)
  | [] => rfl
  | p :: l => by
    rw [look, List.any_cons]
    by_cases h : p.1 = n
    · rw [if_pos h]
      simp [h]
    · rw [if_neg h, any_look n l]
      simp [h]

def hasN (l : Dir) (n : Int) (j : Nat) : Bool := (l.take j).any (fun q => q.1 == n)

theorem hasN_succ {l : Dir} {j : Nat} (h : j < l.length) (n : Int) : hasN l n (j + 1) = (hasN l n j || (l[j].1 == n)) := by
  unfold hasN
  rw [List.take_succ_eq_append_getElem h, List.any_append]
  simp

theorem sumB_succ (fs : List Fl) {l : Dir} {j : Nat} (h : j < l.length) : sumB fs (l.take (j + 1)) = sumB fs (l.take j) + (fl fs l[j].2).b.length := by
  rw [List.take_succ_eq_append_getElem h, sumB_append, sumB_cons, sumB_nil]
  rfl

theorem sumB_take_le (fs : List Fl) (l : Dir) (j : Nat) : sumB fs (l.take j) ≤ sumB fs l := by
  have h : sumB fs l = sumB fs (l.take j) + sumB fs (l.drop j) := by rw [← sumB_append, List.take_append_drop]
  omega

theorem rising_at {l : Dir} (h : Rising l) {i j : Nat} (hij : i < j) (hj : j < l.length) : (l[i]'(by omega)).1 < l[j].1 :=
  List.pairwise_iff_getElem.1 h i j (by omega) hj hij

/-- A name that there is, read. -/
theorem read_there {d : Dk} (h : OkD d) (hp : d.power = -1) {j : Nat} (hj : j < (dirD d).length) : (readD d (dirD d)[j].1).2 = 0 ∧ (readD d (dirD d)[j].1).1.length = (fl d.files (dirD d)[j].2).b.length := by
  have hm : look (dirD d) (dirD d)[j].1 = some (dirD d)[j].2 := (look_mem h.dir.rise _ _).2 (List.getElem_mem hj)
  obtain ⟨h1, h2⟩ := read_lit (d := d) (by omega) (dirD d)[j].1
  rw [hm] at h1 h2
  exact ⟨h1.2 rfl, h2⟩

/-- Any name, read. -/
theorem read_any_name {d : Dk} (hp : d.power = -1) (n : Int) : ((readD d n).2 = 0 ∧ hasN (dirD d) n (dirD d).length = true) ∨ ((readD d n).2 = 8 ∧ hasN (dirD d) n (dirD d).length = false) := by
  unfold hasN readD
  rw [List.take_length, ← any_look, if_neg (by omega)]
  cases look (dirD d) n with
  | some f => exact .inl ⟨rfl, rfl⟩
  | none => exact .inr ⟨rfl, rfl⟩

end Go.Proofs.Ytfphllhcoiblkaa
