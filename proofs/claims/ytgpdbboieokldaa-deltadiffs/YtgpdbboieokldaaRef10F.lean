/- Contract of ferrymanref10: entry. -/
import Derived.Test.YtgpdbboieokldaaDeltaBase
import Derived.Test.YtgpdbboieokldaaPack3
import Derived.Test.YtgpdbboieokldaaDeltaDiff
namespace Go.Proofs.Ytgpdbboieokldaa
open Go.RowKit

/-- The first entry of a process. -/
def findE (t : List Ent) (p : Int) : Option Ent := t.find? (fun e => decide (e.proc = p))

theorem findE_at {t : List Ent} {p : Int} {k : Nat} (hk : k < t.length) (hb : ∀ j, j < k → (t.getD j zeroE).proc ≠ p) (hp : (t.getD k zeroE).proc = p) : findE t p = some (t.getD k zeroE) := by
  unfold findE
  rw [List.find?_eq_some_iff_append]
  refine ⟨by simpa using hp, t.take k, t.drop (k + 1), ?_, fun e he => ?_⟩
  · have : t.getD k zeroE = t[k] := by simp [List.getD, hk]
    rw [this, List.getElem_cons_drop, List.take_append_drop]
  · obtain ⟨j, hj, rfl⟩ := List.getElem_of_mem he
    have hj2 : j < k := by rw [List.length_take] at hj; omega
    have := hb j hj2
    have e2 : (t.take k)[j] = t.getD j zeroE := by
      rw [List.getElem_take]
      simp [List.getD, show j < t.length by omega]
    rw [e2]
    simpa using this

theorem findE_no {t : List Ent} {p : Int} (hb : ∀ j, j < t.length → (t.getD j zeroE).proc ≠ p) : findE t p = none := by
  unfold findE
  rw [List.find?_eq_none]
  intro e he
  obtain ⟨j, hj, rfl⟩ := List.getElem_of_mem he
  have := hb j hj
  simpa [List.getD, hj] using this

theorem findE_isSome (t : List Ent) (p : Int) : (findE t p).isSome = decide (∃ y ∈ t, y.proc = p) := by
  unfold findE
  rw [Bool.eq_iff_iff, List.find?_isSome]
  simp

/-- Over a table that rises, the entry of e's process is e just if e is in it. -/
theorem findE_eq {t : List Ent} (hr : Rises t) (e : Ent) : (findE t e.proc = some e) ↔ e ∈ t := by
  constructor
  · intro h
    exact List.mem_of_find?_eq_some h
  · intro h
    have hs : (findE t e.proc).isSome = true := by
      rw [findE_isSome, decide_eq_true_iff]
      exact ⟨e, h, rfl⟩
    obtain ⟨x, hx⟩ := Option.isSome_iff_exists.1 hs
    rw [hx]
    have h1 : x ∈ t := List.mem_of_find?_eq_some hx
    have h2 : x.proc = e.proc := by
      have := List.find?_some hx
      simpa using this
    rw [hr.one h1 h h2]

set_option maxRecDepth 100000 in
set_option maxHeartbeats 2000000 in
theorem entry_any (vt : Value) (t : List Ent) (p : Int) (w : World) (ht : RdE w vt t) :
    Calls Try.prog 30 #[vt, .int .i64 p] w fun x w' => x = .returned (.tuple #[.agg #[.int .i64 ((findE t p).getD zeroE).proc, .int .i64 ((findE t p).getD zeroE).seq, .int .i64 ((findE t p).getD zeroE).resp], .bool (findE t p).isSome]) ∧ Below w.heap.size w w' := by
  obtain ⟨ta, tc, rfl, htl, htm, -, -, hta⟩ := ht
  have hml : (t.length : Int) ≤ 9223372036854775807 := by unfold maxLen at htm; omega
  have HTA := hide hta
  obtain ⟨W0, hW0⟩ : ∃ W0, W0 = w.alloc (.cells #[.int .i64 0, .int .i64 0, .int .i64 0] 55) := ⟨_, rfl⟩
  have HB0 : Hid (Below w.heap.size w W0) := hide (by rw [hW0]; exact (Below.refl _ _).alloc (Nat.le_refl _) _)
  have HX0 : Hid (Be W0 w.heap.size #[.int .i64 0, .int .i64 0, .int .i64 0]) := hide (by rw [hW0]; exact heap_alloc_new w _)
  obtain ⟨F, hF⟩ : ∃ F, F = findE t p := ⟨_, rfl⟩
  rw [← hF]
  have HF1 : Hid (∀ k, k < t.length → (∀ j, j < k → (t.getD j zeroE).proc ≠ p) → (t.getD k zeroE).proc = p → F = some (t.getD k zeroE)) := hide (fun k h1 h2 h3 => by rw [hF]; exact findE_at h1 h2 h3)
  have HF0 : Hid ((∀ j, j < t.length → (t.getD j zeroE).proc ≠ p) → F = none) := hide (fun h => by rw [hF]; exact findE_no h)
  have HW0 := hide hW0
  obtain ⟨z0, y0⟩ := HX0.out.cell 0
  obtain ⟨z1, y1⟩ := HX0.out.cell 1
  obtain ⟨z2, y2⟩ := HX0.out.cell 2
  clear hta htl htm hW0 hF
  go_enter Try.func30, Try.ntmps30
  go_upto_region 1 with fail
  rw [← HW0.out]
  clear HW0
  go_wp2
  go_loopw [6] (fun vi wr => ∃ k : Nat, vi = .int .i64 (k : Int) ∧ k ≤ t.length ∧ Hid (∀ j, j < k → (t.getD j zeroE).proc ≠ p) ∧ wr = W0) (fun vi _ => t.length - (intOf vi).toNat)
  case atStart => exact ⟨0, rfl, Nat.zero_le _, hide (fun j hj => by omega), rfl⟩
  case round =>
    obtain ⟨k, rfl, hk, hP, rfl⟩ := hrel
    by_cases hlt : k < t.length
    case neg =>
      have hni : ¬ (k : Int) < (t.length : Int) := by omega
      have HE := hide (HF0.out (fun j hj => hP.out j (by omega)))
      clear hP hk hlt
      go_wp2
      refine bodyPost_ret (v := .tuple #[.agg #[.int .i64 0, .int .i64 0, .int .i64 0], .bool false]) (by simp [results, Try.results30, go_sem, z0, z1, z2]) rfl ?_
      rw [HE.out]
      exact ⟨rfl, ((HB0.out.setCell (Nat.le_refl _) _).setCell (Nat.le_refl _) _).setCell (Nat.le_refl _) _⟩
    have hki : (k : Int) < (t.length : Int) := by omega
    rcases HTA.out with h0 | ⟨c, off, rfl, hc⟩
    · rw [h0] at hlt; simp at hlt
    have h1 := hc k hlt
    have hcw : c ≠ w.heap.size := by have := h1.lt; omega
    obtain ⟨c0, c1, c2⟩ := h1.keep (HB0.out.block c h1.lt)
    have HFK := hide (fun h => HF1.out k hlt hP.out h)
    have HPN : Hid ((t.getD k zeroE).proc ≠ p → ∀ j, j < k + 1 → (t.getD j zeroE).proc ≠ p) := hide (fun h j hj => by
      by_cases e : j = k
      · rw [e]; exact h
      · exact hP.out j (by omega))
    clear hc h1 hP HF1 HF0
    generalize t.getD k zeroE = x at *
    obtain ⟨xp, xq, xr⟩ := x
    dsimp only at *
    by_cases hx : xp = p
    · have hxb : (xp == p) = true := by rw [beq_iff_eq]; exact hx
      have HE := hide (HFK.out hx)
      clear hx HFK HPN
      go_wp2
      refine bodyPost_ret (v := .tuple #[.agg #[.int .i64 xp, .int .i64 xq, .int .i64 xr], .bool true]) (by simp [results, Try.results30, go_sem, z0, z1, z2]) rfl ?_
      rw [HE.out]
      exact ⟨rfl, ((HB0.out.setCell (Nat.le_refl _) _).setCell (Nat.le_refl _) _).setCell (Nat.le_refl _) _⟩
    · have hxb : (xp == p) = false := beq_eq_false_iff_ne.2 hx
      have HP1 := hide (HPN.out hx)
      clear hx HFK HPN
      go_wp2
      go_roundw
      case rel => exact ⟨k + 1, by go_num, by omega, HP1, trivial⟩
      case measure => simp [intOf]; omega

end Go.Proofs.Ytgpdbboieokldaa
