/- Proved: for all bytes, every place and all bits the law CrcBursts answers true (and the call leaves all older memory as it was). No condition. -/
import Derived.Test.YthgcgpmdllcdhaaCrcTurn
import Derived.OpenShut
import Derived.ChangeOld
namespace Go.Proofs.Ythgcgpmdllcdhaa.crcBursts
open Go.ChangeShapes Go.WideShapes Go.ChangeAt Go.RowKit

theorem bit_int (B k : Nat) : (((B : Int) / 2 ^ k).tmod 2) = ((B / 2 ^ k % 2 : Nat) : Int) := by
  have e : (B : Int) / 2 ^ k = ((B / 2 ^ k : Nat) : Int) := by simp
  rw [e]
  exact (Int.ofNat_tmod _ 2).symm

set_option maxRecDepth 100000 in
set_option maxHeartbeats 2000000 in
theorem core (ao : Option Addr) (cap : Nat) (l : List UInt8) (p B : Nat) (BI : Int) (HBI : Hid (BI = (B : Int))) (w : World) (hr : Rd w (.slice ao l.length cap) l) (hl : (l.length : Int) ≤ 1000) (hp : (p : Int) < 8 * (l.length : Int)) (hB0 : (BI == 0) = false) :
    Calls Try.prog 5 #[.slice ao l.length cap, .int .i64 (p : Int), .int .u32 BI] w fun e w' => e = .returned (.bool true) ∧ Below w.heap.size w w' := by
  have HA := hide (awake_any w)
  have HR := hide hr
  clear hr
  go_enter Try.func5, Try.ntmps5
  go_wp2_with fail
  refine HA.out.mono ?_
  rintro e w1 ⟨rfl, hb⟩
  have HB1 := hide hb
  clear hb HA
  have hs1 := HB1.out.size
  go_wp2_with (at_builtin; refine wpList_append_rd _ rfl _ _ rfl w1.heap.size _ [] rfl (Own.nil _ _) _ l rfl (HR.out.below HB1.out (Nat.le_refl _)) (by simp; omega) (Nat.le_refl _) ?_)
  intro v2 w2 ho2 hb2
  have HB2 := hide hb2
  obtain ⟨g, cap2, rfl, hgB⟩ : ∃ g cap2, v2 = .slice (some ⟨g, 0, none⟩) l.length cap2 ∧ w1.heap.size ≤ g := by
    rcases ho2.2 with ⟨_, h0⟩ | ⟨g, cap2, cur, hv, hg, _⟩
    · have h1 : l.length = 0 := by simpa using h0
      omega
    · exact ⟨g, cap2, by simpa using hv, hg⟩
  have HO2 := hide ho2
  clear ho2 hb2
  go_wp2
  go_loopw [9, 10] (fun t i wr => ∃ (k : Nat) (c : List UInt8), k ≤ 32 ∧ i = .int .i64 (k : Int) ∧ t = .bool (decide (cur B (8 * l.length - p) k ≠ 0)) ∧ Hid (c.length = l.length ∧ Lib.leNat c = Lib.leNat l ^^^ 2 ^ p * cur B (8 * l.length - p) k) ∧ Hid (wr.ownsRow w1.heap.size 5 1 (.slice (some ⟨g, 0, none⟩) l.length cap2) l.length (Lib.byteCells c)) ∧ Hid (Below w1.heap.size w1 wr)) (fun _ i _ => 32 - (intOf i).toNat)
  case atStart => exact ⟨0, l, Nat.zero_le _, rfl, rfl, ⟨rfl, by simp [cur]⟩, HO2.out, HB2⟩
  case round =>
    obtain ⟨k, c, hk, rfl, rfl, hc, ho, hb⟩ := hrel
    by_cases hlt : k < 32
    · by_cases hcond : B / 2 ^ k % 2 = 1 ∧ k < 8 * l.length - p
      · have HC := hide (cur_turned B (8 * l.length - p) k hcond)
        have hbit : ((BI / 2 ^ k).tmod 2 == 1) = true := by
          rw [HBI.out, bit_int]
          exact beq_iff_eq.2 (by omega)
        have hin : (p : Int) + (k : Int) < 8 * (l.length : Int) := by omega
        have HCO := hide hcond
        clear hcond
        generalize decide (cur B (8 * l.length - p) k ≠ 0) = t0 at *
        have hcell : wr.cell? ⟨g, (p + k) / 8, none⟩ = some (.int .u8 (c.getD ((p + k) / 8) 0).toNat) := by
          rw [World.ownsRow.cellAt ho.out _ (by omega), byteCells_get _ _ (by have := hc.out.1; omega)]
        have hfr : wr.frozen? ⟨g, (p + k) / 8, none⟩ = false := World.ownsRow.frozenAt ho.out _
        generalize hy : (c.getD ((p + k) / 8) 0).toNat = y at *
        have HY := hide hy
        clear hy
        go_wp2
        go_roundw
        case rel =>
          have hxe : bits .xor .u8 (y : Int) (2 ^ ((p + k) % 8) % 256) = bits .xor .u8 ((c.getD ((p + k) / 8) 0).toNat : Int) ((2 ^ ((p + k) % 8) : Nat) : Int) := by
            have h2 := pow8_lt (p + k)
            have e2 : (2 : Int) ^ ((p + k) % 8) = ((2 ^ ((p + k) % 8) : Nat) : Int) := by simp
            rw [HY.out, e2]
            generalize 2 ^ ((p + k) % 8) = q at h2 ⊢
            congr 1
            omega
          have hst := World.ownsRow.stored ho.out ((p + k) / 8) (.int .u8 (bits .xor .u8 (y : Int) (2 ^ ((p + k) % 8) % 256)))
          rw [turn_cells c (p + k) hxe] at hst
          refine ⟨k + 1, turn c (p + k), by omega, by go_num, by rw [decide_eq_true HC.out.2], ⟨?_, ?_⟩, hst.1, hb.out.setCell hgB _⟩
          · rw [turn_length]
            exact hc.out.1
          · rw [leNat_turn c (p + k) (by have := hc.out.1; omega), hc.out.2, HC.out.1, pow_mul_xor, Nat.pow_add, Nat.xor_assoc]
        case measure => simp [intOf]; omega
      · have HC := hide (cur_stays B (8 * l.length - p) k hcond)
        by_cases hbt : B / 2 ^ k % 2 = 1
        · have hbit : ((BI / 2 ^ k).tmod 2 == 1) = true := by
            rw [HBI.out, bit_int]
            exact beq_iff_eq.2 (by omega)
          have hin : ¬ (p : Int) + (k : Int) < 8 * (l.length : Int) := by omega
          clear hcond hbt
          generalize hq : decide (cur B (8 * l.length - p) k ≠ 0) = t0 at *
          have HQ := hide hq
          clear hq
          go_wp2
          go_roundw
          case rel => exact ⟨k + 1, c, by omega, by go_num, by rw [HC.out, HQ.out], by rw [HC.out]; exact hc, ho, hb⟩
          case measure => simp [intOf]; omega
        · have hbit : ((BI / 2 ^ k).tmod 2 == 1) = false := by
            rw [HBI.out, bit_int]
            exact beq_eq_false_iff_ne.2 (by omega)
          clear hcond hbt
          generalize hq : decide (cur B (8 * l.length - p) k ≠ 0) = t0 at *
          have HQ := hide hq
          clear hq
          go_wp2
          go_roundw
          case rel => exact ⟨k + 1, c, by omega, by go_num, by rw [HC.out, HQ.out], by rw [HC.out]; exact hc, ho, hb⟩
          case measure => simp [intOf]; omega
    · obtain rfl : k = 32 := by omega
      have hcl := hc.out.1
      have hb32 := burst_plain l c p (cur B (8 * l.length - p) 32) hcl (by omega) (by have := cur_lt B (8 * l.length - p) 32; omega) hc.out.2
      have HBr := hide (HB1.out.trans (hb.out.mono hs1))
      have C1 : Hid (Calls Try.prog 11 #[.slice ao l.length cap] wr fun e w' => e = .returned (.int .u32 (crcMore 0 l : Nat)) ∧ Below wr.heap.size wr w') := sum_any _ l wr (HR.out.below HBr.out (Nat.le_refl _))
      have hRc : Rd wr (.slice (some ⟨g, 0, none⟩) l.length cap2) c := (Own.mk' ho.out hcl.symm rfl).rd
      have C2 : Hid (∀ W, Below wr.heap.size wr W → Calls Try.prog 11 #[.slice (some ⟨g, 0, none⟩) l.length cap2] W fun e w' => e = .returned (.int .u32 (crcMore 0 c : Nat)) ∧ Below W.heap.size W w') := fun W hW => sum_any _ c W (hRc.below hW (Nat.le_refl _))
      obtain ⟨X, hX⟩ : ∃ X : Int, X = ((crcMore 0 l : Nat) : Int) := ⟨_, rfl⟩
      obtain ⟨Y, hY⟩ : ∃ Y : Int, Y = ((crcMore 0 c : Nat) : Int) := ⟨_, rfl⟩
      have hq : decide (cur B (8 * l.length - p) 32 ≠ 0) = (X != Y) := by
        rw [Bool.eq_iff_iff, bne_iff_ne, decide_eq_true_iff, hX, hY]
        constructor
        · intro h e
          exact h (hb32.1 (by omega))
        · intro h e
          exact h (by rw [hb32.2 e])
      rw [← hX] at C1
      rw [← hY] at C2
      rw [hq]
      clear hX hY hq hb32 hRc hc ho HR HB2 HO2 hcl HB1 hb
      go_wp2_with fail
      refine C1.out.mono ?_
      rintro e w4 ⟨rfl, h4⟩
      have H4 := hide h4
      clear h4 C1
      go_wp2_with fail
      refine (C2.out _ H4.out).mono ?_
      rintro e w5 ⟨rfl, h5⟩
      have H5 := hide (HBr.out.trans ((H4.out.trans (h5.mono H4.out.size)).mono HBr.out.size))
      clear h5 C2
      go_wp2
      go_ret
      exact ⟨rfl, H5.out⟩

set_option maxRecDepth 100000 in
set_option maxHeartbeats 2000000 in
theorem walk (v : Value) (l : List UInt8) (p B : Int) (w : World) (hr : Rd w v l) (w1 : (Lit.int .i64 p).wf = true) (w2 : (Lit.int .u32 B).wf = true) :
    Calls Try.prog 5 #[v, .int .i64 p, .int .u32 B] w fun e w' => e = .returned (.bool true) ∧ Below w.heap.size w w' := by
  obtain ⟨hp0, hp1⟩ := i64_bd w1
  obtain ⟨hB0, hB1⟩ := u32_bd w2
  clear w1 w2
  have HA := hide (awake_any w)
  have HR := hide hr
  obtain ⟨ao, cap, rfl, hlc, hcm, _, _⟩ := hr
  by_cases h1 : (1000 : Int) < (l.length : Int)
  · go_enter Try.func5, Try.ntmps5
    go_wp2_with fail
    refine HA.out.mono ?_
    rintro e w1 ⟨rfl, hb⟩
    have HB := hide hb
    clear hb HA HR
    go_wp2
    go_ret
    exact ⟨rfl, HB.out⟩
  · by_cases h2 : p < 0
    · go_enter Try.func5, Try.ntmps5
      go_wp2_with fail
      refine HA.out.mono ?_
      rintro e w1 ⟨rfl, hb⟩
      have HB := hide hb
      clear hb HA HR
      go_wp2
      go_ret
      exact ⟨rfl, HB.out⟩
    · by_cases h3 : 8 * (l.length : Int) ≤ p
      · go_enter Try.func5, Try.ntmps5
        go_wp2_with fail
        refine HA.out.mono ?_
        rintro e w1 ⟨rfl, hb⟩
        have HB := hide hb
        clear hb HA HR
        go_wp2
        go_ret
        exact ⟨rfl, HB.out⟩
      · by_cases h4 : B = 0
        · have h4' : (B == 0) = true := beq_iff_eq.2 h4
          clear h4
          go_enter Try.func5, Try.ntmps5
          go_wp2_with fail
          refine HA.out.mono ?_
          rintro e w1 ⟨rfl, hb⟩
          have HB := hide hb
          clear hb HA HR
          go_wp2
          go_ret
          exact ⟨rfl, HB.out⟩
        · obtain ⟨q, rfl⟩ : ∃ q : Nat, p = (q : Int) := Int.eq_ofNat_of_zero_le (by omega)
          obtain ⟨C, hC⟩ : ∃ C : Nat, B = (C : Int) := Int.eq_ofNat_of_zero_le hB0
          exact core ao cap l q C B hC w HR.out (by omega) (by omega) (beq_eq_false_iff_ne.2 h4)

theorem own : ownKnob Try.prog.godebug = none := by kernel_rfl
theorem laidOut : laidOutB Try.prog = true := by kernel_rfl

set_option linter.unusedVariables false in
set_option maxRecDepth 100000 in
theorem lifted (os : Os) (started : os.Started) (H : Type) (enc : TypeId × Value → H) :
    ReturnsInHanded {} Try.checked os 5 .any (Rows.crcBurstsSpec.pre6 enc Try.prog Try.f5 Rows.crcBurstsRow.domain false) (Rows.crcBurstsSpec.post enc Try.prog Try.f5 false true false false) := by
  refine returnsInHanded_of_change (C := Try.checked) own started (by kernel_rfl) Try.func5
    (ChangeSpec.witness6 (enc := enc) (C := Try.checked) false ⟨#[], #[.slice none 0 0, .int .i64 0, .int .u32 0], []⟩ 8 (by kernel_rfl) (by kernel_rfl) (by kernel_rfl) (by kernel_rfl)) ?_
  intro W base args ds gs before hval0 hW hcnd _
  have hval : ∀ (j : Nat) t v, Try.f5.params[j]? = some t → args[j]? = some v → Value.okWide Try.prog W .any base t v := hval0
  have hW' := hW
  obtain ⟨p, q, hA0, hV, rfl, hfz, hnd⟩ := hW
  have hA : DataW.TrodAll enc Try.prog W 0 (fun _ => true) true Try.f5.params.toList args.toList ds p := hA0
  rw [Try.params5] at hA hval
  obtain ⟨v0, vs0, d0, ds0, p0, q0, hargs, rfl, rfl, h0, r0⟩ := trodAll_cons hA
  obtain ⟨v1, vs1, d1, ds1, p1, q1, rfl, rfl, rfl, h1, r1⟩ := trodAll_cons r0
  obtain ⟨v2, vs2, d2, ds2, p2, q2, rfl, rfl, rfl, h2, r2⟩ := trodAll_cons r1
  obtain ⟨rfl, rfl, rfl⟩ := trodAll_nil r2
  obtain rfl : args = #[v0, v1, v2] := by cases args; simp_all
  obtain ⟨rfl, rfl⟩ := trodVars_none hV
  obtain ⟨a0, len0, cap0, rfl⟩ := okWide_slice Try.underlying23 (hval 0 23 v0 rfl rfl)
  have k0 := h0
  have lt0 : ∀ x ∈ p0, x.block < W.heap.size := by obtain ⟨m, hm⟩ := k0; exact DataW.trod_lt m _ _ _ hm
  obtain ⟨l0, w0⟩ : ∃ l, Rd W (.slice a0 len0 cap0) l := by
    obtain ⟨fuel, hf⟩ := h0
    rcases open_ints Try.underlying23 Try.underlying5 (by kernel_rfl) hf with ⟨hcs, _⟩ | ⟨x, l, c, zs, hcs, _, hl, hm, hz, _, hcell, hwz⟩
    · simp [Value.cells] at hcs
      obtain ⟨rfl, rfl, rfl⟩ := hcs
      exact ⟨[], Rd.nil _⟩
    · simp [Value.cells] at hcs
      obtain ⟨rfl, rfl, rfl⟩ := hcs
      exact ⟨_, Rd.ofRow hl hm (by simpa using hz) hcell hwz⟩
  obtain ⟨a1, rfl, rfl, rfl, w1⟩ := open_int Try.underlying3 (hval 1 3 v1 rfl rfl) h1
  obtain ⟨a2, rfl, rfl, rfl, w2⟩ := open_int Try.underlying22 (hval 2 22 v2 rfl rfl) h2
  clear hA0 hval0
  refine (walk _ l0 a1 a2 W w0 w1 w2).mono fun e W' ⟨he, bel⟩ => ?_
  subst he
  exact ⟨_, rfl, _, _, _, [], _, [], hW', trodAll_mk1 (shut_bool Try.underlying4 _), (trodAll_cons_mk (Below.trod laidOut (by kernel_rfl) (of_decide_eq_true (by kernel_rfl)) k0 bel lt0) (trodAll_cons_mk (shut_int Try.underlying3 w1) (trodAll_cons_mk (shut_int Try.underlying22 w2) trodAll_mk0))), rfl, bel.frame _, fun h => by cases h⟩

theorem over : Rows.crcBurstsRow.holds Try.pinned (OpenSpec.ofChange Rows.crcBurstsSpec) :=
  OpenClaim.holds_of_wide 5 Try.f5 rfl rfl rfl rfl rfl rfl rfl ⟨rfl, rfl, rfl, rfl, rfl⟩ rfl rfl rfl rfl rfl (by kernel_rfl) Try.func5 (by kernel_rfl)
    (of_decide_eq_true (by kernel_rfl)) (by unfold Func.isWrapper; first | (rw [if_pos (by decide +kernel)]; kernel_rfl) | (rw [if_neg (by decide +kernel)]; exact ⟨rfl, rfl⟩))
    (fun os started H enc _ => lifted os started H enc)

end Go.Proofs.Ythgcgpmdllcdhaa.crcBursts
namespace Go.Proofs.Ythgcgpmdllcdhaa

theorem crcBursts_holds : Rows.CrcBurstsSaid := crcBursts.over

end Go.Proofs.Ythgcgpmdllcdhaa
