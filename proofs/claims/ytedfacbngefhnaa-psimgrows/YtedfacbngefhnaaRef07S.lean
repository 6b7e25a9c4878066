/- Contract of ferrymanref07: Same. -/
import Derived.Test.YtedfacbngefhnaaBlockBase
import Derived.Test.YtedfacbngefhnaaRecEq
namespace Go.Proofs.Ytedfacbngefhnaa
open Go.RowKit

theorem takeS_snoc {l : List Rec} {q : Nat} (h : q < l.length) : l.take (q + 1) = l.take q ++ [l.getD q zeroR] := by
  rw [List.take_add_one]
  simp [List.getD, h]

set_option maxRecDepth 100000 in
set_option maxHeartbeats 2000000 in
theorem refSameR_any (va : Value) (a : List Rec) (vb : Value) (b : List Rec) (w : World) (ha : RdR w va a) (hb : RdR w vb b) :
    Calls Try.prog 23 #[va, vb] w fun e w' => e = .returned (.bool (decide (a = b))) ∧ Below w.heap.size w w' := by
  obtain ⟨aa, ca, rfl, hla, hma, -, -, haa⟩ := ha
  obtain ⟨ab, cb, rfl, hlb, hmb, -, -, hab⟩ := hb
  have hml : (a.length : Int) ≤ 9223372036854775807 := by unfold maxLen at hma; omega
  have hml2 : (b.length : Int) ≤ 9223372036854775807 := by unfold maxLen at hmb; omega
  have HAA := hide haa
  have HAB := hide hab
  clear haa hab hla hma hlb hmb
  have hgd := guard_rec
  by_cases hlen : a.length = b.length
  case neg =>
    have HF : Hid (decide (a = b) = false) := decide_eq_false (fun h => hlen (by rw [h]))
    have hne : ((a.length : Int) != (b.length : Int)) = true := by rw [bne_iff_ne]; omega
    rw [HF.out]
    go_enter Try.func23, Try.ntmps23
    go_wp2
    go_ret
    exact ⟨rfl, Below.refl _ _⟩
  have hne : ((a.length : Int) != (b.length : Int)) = false := by rw [bne_eq_false_iff_eq]; omega
  obtain ⟨D, hD⟩ : ∃ D, D = decide (a = b) := ⟨_, rfl⟩
  rw [← hD]
  have HDT : Hid (a.take a.length = b.take a.length → D = true) := fun h => by
    rw [hD]
    refine decide_eq_true ?_
    rw [List.take_length, hlen, List.take_length] at h
    exact h
  have HDF : Hid (∀ k, k < a.length → a.getD k zeroR ≠ b.getD k zeroR → D = false) := fun k hk h => by
    rw [hD]
    exact decide_eq_false (fun e => h (by rw [e]))
  clear hD
  go_enter Try.func23, Try.ntmps23
  go_wp2
  go_loopw [5] (fun vi wr => ∃ k : Nat, vi = .int .i64 (k : Int) ∧ k ≤ a.length ∧ Hid (a.take k = b.take k) ∧ Hid (Below w.heap.size w wr)) (fun vi _ => a.length - (intOf vi).toNat)
  case atStart => exact ⟨0, rfl, Nat.zero_le _, rfl, Below.refl _ _⟩
  case round =>
    obtain ⟨k, rfl, hk, hP, hB⟩ := hrel
    by_cases hlt : k < a.length
    case neg =>
      obtain rfl : k = a.length := by omega
      have HT := hide (HDT.out hP.out)
      go_wp2
      go_ret
      rw [HT.out]
      exact ⟨rfl, hB.out⟩
    rcases HAA.out with h0 | ⟨c, off, rfl, hc⟩
    · rw [h0] at hlt; simp at hlt
    rcases HAB.out with h0 | ⟨c', off', rfl, hc'⟩
    · rw [h0] at hlen; simp at hlen; rw [hlen] at hlt; simp at hlt
    have h1 := hc k hlt
    have h2 := hc' k (by omega)
    obtain ⟨p0, p1, p2, p3, p4, p5, p6⟩ := h1.keep (hB.out.block c h1.lt)
    obtain ⟨q0, q1, q2, q3, q4, q5, q6⟩ := h2.keep (hB.out.block c' h2.lt)
    have hki : (k : Int) < (a.length : Int) := by omega
    have hkj : (k : Int) < (b.length : Int) := by omega
    have HNE := hide (HDF.out k hlt)
    have HPN : Hid (a.getD k zeroR = b.getD k zeroR → a.take (k + 1) = b.take (k + 1)) := fun h => by rw [takeS_snoc hlt, takeS_snoc (by omega), hP.out, h]
    clear hc hc' h1 h2 HDT HDF
    generalize a.getD k zeroR = r at *
    generalize b.getD k zeroR = s at *
    by_cases hrs : r = s
    · subst hrs
      have HP1 := hide (HPN.out rfl)
      have hneq := fun W => neq_rec W r r
      rw [eqRec_self] at hneq
      clear HNE HPN
      go_upto_region 6 with fail
      go_quiet (fail)
      go_wp2
      go_roundw
      case rel => exact ⟨k + 1, by go_num, by omega, HP1, below_drewN hB.out _⟩
      case measure => simp [intOf]; omega
    · have HD := hide (HNE.out hrs)
      have hneq := fun W => neq_rec W r s
      have hqf : eqRec r s = false := by
        cases hq : eqRec r s
        · rfl
        · exact absurd ((eqRec_iff _ _).1 hq) hrs
      rw [hqf] at hneq
      clear HNE HPN hrs
      go_upto_region 6 with fail
      go_quiet (fail)
      go_wp2
      go_ret
      rw [HD.out]
      exact ⟨rfl, below_drewN hB.out _⟩

end Go.Proofs.Ytedfacbngefhnaa
