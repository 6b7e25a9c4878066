/- Contracts of ferrymanref11: may, pick, did, Cut, New, dir, Dir, find, Used. -/
import Derived.Test.YtfhgjnfichgdiaaRef11C
import Derived.Deep.QuietTactic
import Derived.BigQuiet
namespace Go.Proofs.Ytfhgjnfichgdiaa
open Go.RowKit

set_option maxRecDepth 100000 in
theorem refMay_any (n : Int) (w : World) :
    Calls Try.prog 42 #[.int .i64 n] w fun e w' => e = .returned (.bool (mayN n)) ∧ w' = w := by
  by_cases h1 : 0 ≤ n
  · by_cases h2 : n < 1048576
    · have e : mayN n = true := by simp [mayN, h1, h2]
      rw [e]
      go_enter Try.func42, Try.ntmps42
      go_wp2
      go_ret
      exact ⟨ret_bool (by simp), rfl⟩
    · have e : mayN n = false := by simp [mayN, h1, h2]
      rw [e]
      go_enter Try.func42, Try.ntmps42
      go_wp2
      go_ret
      exact ⟨ret_bool (by simp), rfl⟩
  · have e : mayN n = false := by simp [mayN, h1]
    rw [e]
    go_enter Try.func42, Try.ntmps42
    go_wp2
    go_ret
    exact ⟨rfl, rfl⟩

set_option maxRecDepth 100000 in
theorem refPick_any (a : Int) (n : Nat) (hn : n ≤ 1000000000000000) (w : World) :
    Calls Try.prog 49 #[.int .i64 a, .int .i64 (n : Int)] w fun e w' => e = .returned (.int .i64 (shareN a n : Int)) ∧ w' = w := by
  obtain ⟨M, hM⟩ : ∃ M : Int, M = (n : Int) := ⟨_, rfl⟩
  by_cases h : a < 0
  · have e : shareN a n = 0 := by simp [shareN, h]
    rw [e, ← hM]
    clear hM
    go_enter Try.func49, Try.ntmps49
    go_wp2
    go_ret
    exact ⟨rfl, rfl⟩
  · have h1 := Int.emod_nonneg a (show M + 1 ≠ 0 by omega)
    have e : ((shareN a n : Nat) : Int) = a % (M + 1) := by
      rw [hM] at h1 ⊢
      rw [shareN, if_neg h]
      omega
    rw [e, ← hM]
    have hb : 0 ≤ M ∧ M ≤ 1000000000000000 := by omega
    clear e h1 hM hn n
    go_enter Try.func49, Try.ntmps49
    go_wp2
    go_ret
    exact ⟨rfl, rfl⟩

/-- The document's disk at p is as d. -/
def Rsk (F : Nat → Prop) (w : World) (p : Nat) (d : Dk) (N T : Nat) : Prop :=
  ∃ L, RefL F w p L d ∧ PwR L d.power ∧ I64 L.left ∧ OkD d ∧ Bnd d N T ∧ I64 d.room ∧ I64 d.power

set_option maxRecDepth 100000 in
theorem refDid_any {F : Nat → Prop} {p : Nat} {L : RLay} {d : Dk} (w : World) (h : RefL F w p L d) (hp : PwR L d.power) (h0 : d.power ≠ 0) (hi : I64 d.power) :
    Calls Try.prog 44 #[ptr p] w fun e w' => e = .returned (.tuple #[]) ∧ (∃ L', RefL F w' p L' { d with power := tickD d.power } ∧ PwR L' (tickD d.power) ∧ (I64 L.left → I64 L'.left)) ∧ Only F w w' := by
  have H := hide h
  obtain ⟨⟨-, -, -, -, c4, c5, c6⟩, -, -, -, f4, f5, f6⟩ := h.cells
  obtain ⟨hp1, hp2⟩ := hp
  obtain ⟨ha, hleft⟩ := hp2 h0
  obtain ⟨hi1, hi2⟩ := hi
  by_cases hq : 0 < d.power
  · have hl := hleft hq
    rw [ha, decide_eq_true hq] at c5
    rw [hl] at c6
    have HE : Hid (tickD d.power = d.power - 1) := if_pos hq
    have HAR : Hid (L.armed = true) := hide (by rw [ha]; exact decide_eq_true hq)
    have HP1 := hide hp1
    obtain ⟨q, hqe⟩ : ∃ q, q = d.power := ⟨_, rfl⟩
    have HQ := hide hqe
    rw [← hqe] at c6 hi2 hq HE
    clear h hleft hl ha hp1 hqe h0
    by_cases h1 : q = 1
    · subst h1
      go_enter Try.func44, Try.ntmps44
      go_wp2
      go_end0
      refine ⟨rfl, ⟨{ L with left := 0, armed := false, out := true }, ?_, ?_, fun _ => ⟨by show (-9223372036854775808 : Int) ≤ 0; omega, by show (0 : Int) ≤ 9223372036854775807; omega⟩⟩, (((Only.refl _ _).setCell 6 (fun _ => H.out.fh) _).setCell 5 (fun _ => H.out.fh) _).setCell 4 (fun _ => H.out.fh) _⟩
      · have h1 := ((H.out.setHead (L' := { L with left := 0 }) 6 (.int .i64 0) ⟨rfl, rfl, rfl, rfl, rfl⟩ rfl).setHead (L' := { L with left := 0, armed := false }) 5 (.bool false) ⟨rfl, rfl, rfl, rfl, rfl⟩ rfl).setHead (L' := { L with left := 0, armed := false, out := true }) 4 (.bool true) ⟨rfl, rfl, rfl, rfl, rfl⟩ rfl
        exact ⟨h1.head, h1.files, h1.kept, h1.waits, h1.file, h1.psn, h1.vsn, h1.fh, h1.ff, h1.fk, h1.fw, h1.fp, h1.fb, h1.lt⟩
      · rw [← HQ.out]
        exact ⟨rfl, fun hh => absurd rfl hh⟩
    · have hle : decide (q - 1 ≤ 0) = false := decide_eq_false (by omega)
      go_enter Try.func44, Try.ntmps44
      go_wp2
      go_end0
      refine ⟨rfl, ⟨{ L with left := q - 1 }, ?_, ?_, fun _ => ⟨by show (-9223372036854775808 : Int) ≤ q - 1; omega, by show q - 1 ≤ (9223372036854775807 : Int); omega⟩⟩, (Only.refl _ _).setCell 6 (fun _ => H.out.fh) _⟩
      · have h1 := H.out.setHead (L' := { L with left := q - 1 }) 6 (.int .i64 (q - 1)) ⟨rfl, rfl, rfl, rfl, rfl⟩ rfl
        exact ⟨h1.head, h1.files, h1.kept, h1.waits, h1.file, h1.psn, h1.vsn, h1.fh, h1.ff, h1.fk, h1.fw, h1.fp, h1.fb, h1.lt⟩
      · rw [← HQ.out, HE.out]
        refine ⟨?_, fun _ => ⟨?_, fun _ => rfl⟩⟩
        · rw [HP1.out, ← HQ.out, decide_eq_false (by omega), decide_eq_false (by omega)]
        · show L.armed = _
          rw [HAR.out, decide_eq_true (by omega)]
  · have HE : Hid (tickD d.power = d.power) := if_neg hq
    rw [ha, decide_eq_false hq] at c5
    have HP := hide (And.intro hp1 hp2)
    clear h hleft ha hp1
    go_enter Try.func44, Try.ntmps44
    go_wp2
    (try simp only [Exit.inBlock, Exit.then])
    refine bodyPost_ret (results_none rfl _ _ _) rfl ?_
    rw [HE.out]
    exact ⟨rfl, ⟨L, H.out, HP.out, fun hh => hh⟩, Only.refl _ _⟩

end Go.Proofs.Ytfhgjnfichgdiaa
