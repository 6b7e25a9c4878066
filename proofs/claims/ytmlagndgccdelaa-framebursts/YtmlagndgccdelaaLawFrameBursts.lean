/- Proved: for all data, every place and all bits the law FrameBursts answers true (and the call leaves all older memory as it was). No condition. -/
import Derived.Test.YtmlagndgccdelaaFrameAwake
import Derived.Test.YtmlagndgccdelaaCrcTurn
import Derived.OpenShut
import Derived.ChangeOld
namespace Go.Proofs.Ytmlagndgccdelaa.frameBursts
open Go.ChangeShapes Go.WideShapes Go.ChangeAt Go.RowKit

theorem bit_int (B k : Nat) : (((B : Int) / 2 ^ k).tmod 2) = ((B / 2 ^ k % 2 : Nat) : Int) := by
  have e : (B : Int) / 2 ^ k = ((B / 2 ^ k : Nat) : Int) := by simp
  rw [e]
  exact (Int.ofNat_tmod _ 2).symm

/-- A frame of which bits are turned is no whole one of as many bytes. -/
theorem burst_frame (a c : List UInt8) (p X : Nat) (hl : c.length = (frameOf a).length) (hp : p ≤ 8 * (frameOf a).length) (hX : X < 4294967296) (hc : Lib.leNat c = Lib.leNat (frameOf a) ^^^ 2 ^ p * X)
    (h0 : (decF c).2.2 = 0) (hn : (decF c).2.1 = (frameOf a).length) : X = 0 := by
  obtain ⟨_, _, _, h4⟩ := decF_ok h0
  have e : c = frameOf (decF c).1 := by
    rw [← h4, hn, ← hl, List.take_length]
  refine (burst_plain (frameOf a) c p X hl hp hX hc).1 ?_
  rw [e, frame_sum, frame_sum]

set_option maxRecDepth 100000 in
set_option maxHeartbeats 2000000 in
theorem core (va : Value) (a l : List UInt8) (HF : Hid (l = frameOf a)) (p B : Nat) (BI : Int) (HBI : Hid (BI = (B : Int))) (aa : Option Addr) (capa : Nat) (e0 : va = .slice aa a.length capa) (w : World) (hr : Rd w va a) (ha : (a.length : Int) ≤ 1000) (hl : (l.length : Int) ≤ 2000) (hp : (p : Int) < 8 * (l.length : Int)) (hB0 : (BI == 0) = false) :
    Calls Try.prog 7 #[va, .int .i64 (p : Int), .int .u32 BI] w fun e w' => e = .returned (.bool true) ∧ Below w.heap.size w w' := by
  have HA := hide (awake_any w)
  have HR := hide hr
  have C1 : Hid (∀ w1, Below w.heap.size w w1 → Calls Try.prog 10 #[va] w1 fun e w' => ∃ v', e = .returned (.tuple #[v', .int .i64 0]) ∧ Own w' w1.heap.size v' l ∧ Below w1.heap.size w1 w') := by
    intro w1 hb
    refine (encode_any _ a w1 (HR.out.below hb (Nat.le_refl _))).mono ?_
    have e : encF a = (l, 0) := by rw [HF.out]; exact if_pos (by omega)
    rw [e]
    rintro e w' ⟨v', rfl, ho, hb⟩
    exact ⟨v', rfl, ho, hb⟩
  subst e0
  clear hr
  go_enter Try.func7, Try.ntmps7
  go_wp2_with fail
  refine HA.out.mono ?_
  rintro e w1 ⟨rfl, hb⟩
  have HB1 := hide hb
  clear hb HA
  have hs1 := HB1.out.size
  go_wp2_with fail
  refine (C1.out _ HB1.out).mono ?_
  rintro e w2 ⟨v2, rfl, ho2, hb2⟩
  have HB2 := hide hb2
  obtain ⟨g, cap2, rfl, hgB⟩ : ∃ g cap2, v2 = .slice (some ⟨g, 0, none⟩) l.length cap2 ∧ w1.heap.size ≤ g := by
    rcases ho2.2 with ⟨_, h0⟩ | ⟨g, cap2, cur, hv, hg, _⟩
    · have h1 : l.length = 0 := by simpa using h0
      omega
    · exact ⟨g, cap2, by simpa using hv, hg⟩
  have HO2 := hide ho2
  clear ho2 hb2 C1
  go_wp2
  go_loopw [10, 11] (fun t i wr => ∃ (k : Nat) (c : List UInt8), k ≤ 32 ∧ i = .int .i64 (k : Int) ∧ t = .bool (decide (cur B (8 * l.length - p) k ≠ 0)) ∧ Hid (c.length = l.length ∧ Lib.leNat c = Lib.leNat l ^^^ 2 ^ p * cur B (8 * l.length - p) k) ∧ Hid (wr.ownsRow w1.heap.size 5 1 (.slice (some ⟨g, 0, none⟩) l.length cap2) l.length (Lib.byteCells c)) ∧ Hid (Below w1.heap.size w1 wr)) (fun _ i _ => 32 - (intOf i).toNat)
  case atStart => exact ⟨0, l, Nat.zero_le _, rfl, rfl, ⟨rfl, by simp [cur]⟩, HO2.out, HB2⟩
  case round =>
    obtain ⟨k, c, hk, rfl, rfl, hc, ho, hb⟩ := hrel
    by_cases hlt : k < 32
    · by_cases hcond : B / 2 ^ k % 2 = 1 ∧ k < 8 * l.length - p
      · have HC := hide (cur_turned B (8 * l.length - p) k hcond)
        have hbit : ((BI / 2 ^ k).tmod 2 == 1) = true := by
          rw [HBI.out, bit_int]
          exact beq_iff_eq.2 (by omega)
        have hin : (p : Int) + (k : Int) < 8 * (l.length : Int) := by omega
        have HCO := hide hcond
        clear hcond
        generalize decide (cur B (8 * l.length - p) k ≠ 0) = t0 at *
        have hcell : wr.cell? ⟨g, (p + k) / 8, none⟩ = some (.int .u8 (c.getD ((p + k) / 8) 0).toNat) := by
          rw [World.ownsRow.cellAt ho.out _ (by omega), byteCells_get _ _ (by have := hc.out.1; omega)]
        have hfr : wr.frozen? ⟨g, (p + k) / 8, none⟩ = false := World.ownsRow.frozenAt ho.out _
        generalize hy : (c.getD ((p + k) / 8) 0).toNat = y at *
        have HY := hide hy
        clear hy
        go_wp2
        go_roundw
        case rel =>
          have hxe : bits .xor .u8 (y : Int) (2 ^ ((p + k) % 8) % 256) = bits .xor .u8 ((c.getD ((p + k) / 8) 0).toNat : Int) ((2 ^ ((p + k) % 8) : Nat) : Int) := by
            have h2 := pow8_lt (p + k)
            have e2 : (2 : Int) ^ ((p + k) % 8) = ((2 ^ ((p + k) % 8) : Nat) : Int) := by simp
            rw [HY.out, e2]
            generalize 2 ^ ((p + k) % 8) = q at h2 ⊢
            congr 1
            omega
          have hst := World.ownsRow.stored ho.out ((p + k) / 8) (.int .u8 (bits .xor .u8 (y : Int) (2 ^ ((p + k) % 8) % 256)))
          rw [turn_cells c (p + k) hxe] at hst
          refine ⟨k + 1, turn c (p + k), by omega, by go_num, by rw [decide_eq_true HC.out.2], ⟨?_, ?_⟩, hst.1, hb.out.setCell hgB _⟩
          · rw [turn_length]
            exact hc.out.1
          · rw [leNat_turn c (p + k) (by have := hc.out.1; omega), hc.out.2, HC.out.1, pow_mul_xor, Nat.pow_add, Nat.xor_assoc]
        case measure => simp [intOf]; omega
      · have HC := hide (cur_stays B (8 * l.length - p) k hcond)
        by_cases hbt : B / 2 ^ k % 2 = 1
        · have hbit : ((BI / 2 ^ k).tmod 2 == 1) = true := by
            rw [HBI.out, bit_int]
            exact beq_iff_eq.2 (by omega)
          have hin : ¬ (p : Int) + (k : Int) < 8 * (l.length : Int) := by omega
          clear hcond hbt
          generalize hq : decide (cur B (8 * l.length - p) k ≠ 0) = t0 at *
          have HQ := hide hq
          clear hq
          go_wp2
          go_roundw
          case rel => exact ⟨k + 1, c, by omega, by go_num, by rw [HC.out, HQ.out], by rw [HC.out]; exact hc, ho, hb⟩
          case measure => simp [intOf]; omega
        · have hbit : ((BI / 2 ^ k).tmod 2 == 1) = false := by
            rw [HBI.out, bit_int]
            exact beq_eq_false_iff_ne.2 (by omega)
          clear hcond hbt
          generalize hq : decide (cur B (8 * l.length - p) k ≠ 0) = t0 at *
          have HQ := hide hq
          clear hq
          go_wp2
          go_roundw
          case rel => exact ⟨k + 1, c, by omega, by go_num, by rw [HC.out, HQ.out], by rw [HC.out]; exact hc, ho, hb⟩
          case measure => simp [intOf]; omega
    · obtain rfl : k = 32 := by omega
      have hcl := hc.out.1
      have hb32 := burst_frame a c p (cur B (8 * l.length - p) 32) (by rw [hcl, HF.out]) (by rw [← HF.out]; omega) (by have := cur_lt B (8 * l.length - p) 32; omega) (by rw [← HF.out]; exact hc.out.2)
      rw [← HF.out] at hb32
      have HBr := hide (HB1.out.trans (hb.out.mono hs1))
      have hRc : Rd wr (.slice (some ⟨g, 0, none⟩) l.length cap2) c := (Own.mk' ho.out hcl.symm rfl).rd
      have C2 : Hid (Calls Try.prog 14 #[.slice (some ⟨g, 0, none⟩) l.length cap2] wr fun e w' => ∃ v', e = .returned (.tuple #[v', .int .i64 ((decF c).2.1 : Nat), .int .i64 ((decF c).2.2 : Nat)]) ∧ Below wr.heap.size wr w') := by
        refine (decode_any _ c wr hRc).mono ?_
        rintro e w' ⟨v', rfl, _, hb⟩
        exact ⟨v', rfl, hb⟩
      have hor : decide (cur B (8 * l.length - p) 32 ≠ 0) = false ∨ (decide (cur B (8 * l.length - p) 32 ≠ 0) = true ∧ (((decF c).2.2 : Nat) : Int) ≠ 0) ∨ (decide (cur B (8 * l.length - p) 32 ≠ 0) = true ∧ (decF c).2.2 = 0 ∧ (((decF c).2.1 : Nat) : Int) ≠ (l.length : Int)) := by
        by_cases hX : cur B (8 * l.length - p) 32 = 0
        · exact .inl (decide_eq_false (fun h => h hX))
        · right
          by_cases h0 : (decF c).2.2 = 0
          · exact .inr ⟨decide_eq_true hX, h0, fun h => hX (hb32 h0 (by omega))⟩
          · exact .inl ⟨decide_eq_true hX, by omega⟩
      generalize decide (cur B (8 * l.length - p) 32 ≠ 0) = t at *
      generalize (decF c).2.1 = n at *
      generalize (decF c).2.2 = f at *
      clear hb32 hRc hc ho HR HB2 HO2 hcl HB1 hb
      rcases hor with rfl | ⟨rfl, hf⟩ | ⟨rfl, rfl, hn⟩
      · go_wp2_with fail
        refine C2.out.mono ?_
        rintro e w4 ⟨v4, rfl, h4⟩
        have H4 := hide (HBr.out.trans (h4.mono HBr.out.size))
        clear h4 C2
        go_wp2
        go_ret
        exact ⟨rfl, H4.out⟩
      · have hfq : ((f : Int) != 0) = true := by rw [bne_iff_ne]; exact hf
        clear hf
        go_wp2_with fail
        refine C2.out.mono ?_
        rintro e w4 ⟨v4, rfl, h4⟩
        have H4 := hide (HBr.out.trans (h4.mono HBr.out.size))
        clear h4 C2
        go_wp2
        go_ret
        exact ⟨rfl, H4.out⟩
      · have hnq : ((n : Int) != (l.length : Int)) = true := by rw [bne_iff_ne]; exact hn
        clear hn
        go_wp2_with fail
        refine C2.out.mono ?_
        rintro e w4 ⟨v4, rfl, h4⟩
        have H4 := hide (HBr.out.trans (h4.mono HBr.out.size))
        clear h4 C2
        go_wp2
        go_ret
        exact ⟨rfl, H4.out⟩

set_option maxRecDepth 100000 in
set_option maxHeartbeats 2000000 in
theorem walk (v : Value) (a : List UInt8) (p B : Int) (w : World) (hr : Rd w v a) (w1 : (Lit.int .i64 p).wf = true) (w2 : (Lit.int .u32 B).wf = true) :
    Calls Try.prog 7 #[v, .int .i64 p, .int .u32 B] w fun e w' => e = .returned (.bool true) ∧ Below w.heap.size w w' := by
  obtain ⟨hp0, hp1⟩ := i64_bd w1
  obtain ⟨hB0, hB1⟩ := u32_bd w2
  clear w1 w2
  have HA := hide (awake_any w)
  have HR := hide hr
  obtain ⟨ao, cap, rfl, hlc, hcm, _, _⟩ := hr
  by_cases h1 : (1000 : Int) < (a.length : Int)
  · go_enter Try.func7, Try.ntmps7
    go_wp2_with fail
    refine HA.out.mono ?_
    rintro e w1 ⟨rfl, hb⟩
    have HB := hide hb
    clear hb HA HR
    go_wp2
    go_ret
    exact ⟨rfl, HB.out⟩
  · have C1 : Hid (∀ w1, Below w.heap.size w w1 → Calls Try.prog 10 #[.slice ao a.length cap] w1 fun e w' => ∃ a' c', e = .returned (.tuple #[.slice a' (frameOf a).length c', .int .i64 0]) ∧ Below w1.heap.size w1 w') := by
      intro w1 hb
      refine (encode_any _ a w1 (HR.out.below hb (Nat.le_refl _))).mono ?_
      have e : encF a = (frameOf a, 0) := if_pos (by omega)
      rw [e]
      rintro e w' ⟨v', rfl, ho, hb⟩
      obtain ⟨a', c', rfl, _⟩ := ho.rd
      exact ⟨a', c', rfl, hb⟩
    have hF : ((frameOf a).length : Int) ≤ 2000 := by
      have h3 : (Lib.uvarint a.length).length ≤ 3 := len3 (by omega)
      rw [frameOf_length]
      omega
    by_cases hc : p < 0 ∨ 8 * ((frameOf a).length : Int) ≤ p ∨ B = 0
    · generalize frameOf a = F at *
      have h4 : p < 0 ∨ (0 ≤ p ∧ 8 * (F.length : Int) ≤ p) ∨ (0 ≤ p ∧ p < 8 * (F.length : Int) ∧ (B == 0) = true) := by
        by_cases g1 : p < 0
        · exact .inl g1
        · by_cases g2 : 8 * (F.length : Int) ≤ p
          · exact .inr (.inl ⟨by omega, g2⟩)
          · refine .inr (.inr ⟨by omega, by omega, beq_iff_eq.2 ?_⟩)
            rcases hc with h | h | h
            · omega
            · omega
            · exact h
      clear hc
      rcases h4 with h4 | ⟨h4, h5⟩ | ⟨h4, h5, h6⟩
      all_goals
        go_enter Try.func7, Try.ntmps7
        go_wp2_with fail
        refine HA.out.mono ?_
        rintro e w1 ⟨rfl, hb⟩
        have HB := hide hb
        clear hb HA HR
        go_wp2_with fail
        refine (C1.out _ HB.out).mono ?_
        rintro e w2 ⟨a2, c2, rfl, hb2⟩
        have HB2 := hide (HB.out.trans (hb2.mono HB.out.size))
        clear hb2 C1
        go_wp2
        go_ret
        exact ⟨rfl, HB2.out⟩
    · obtain ⟨q, rfl⟩ : ∃ q : Nat, p = (q : Int) := Int.eq_ofNat_of_zero_le (by omega)
      obtain ⟨C, hC⟩ : ∃ C : Nat, B = (C : Int) := Int.eq_ofNat_of_zero_le hB0
      exact core _ a (frameOf a) rfl q C B hC ao cap rfl w HR.out (by omega) hF (by omega) (beq_eq_false_iff_ne.2 (by omega))

theorem own : ownKnob Try.prog.godebug = none := by kernel_rfl
theorem laidOut : laidOutB Try.prog = true := by kernel_rfl

set_option linter.unusedVariables false in
set_option maxRecDepth 100000 in
theorem lifted (os : Os) (started : os.Started) (H : Type) (enc : TypeId × Value → H) :
    ReturnsInHanded {} Try.checked os 7 .any (Rows.frameBurstsSpec.pre6 enc Try.prog Try.f7 Rows.frameBurstsRow.domain false) (Rows.frameBurstsSpec.post enc Try.prog Try.f7 false true false false) := by
  refine returnsInHanded_of_change (C := Try.checked) own started (by kernel_rfl) Try.func7
    (ChangeSpec.witness6 (enc := enc) (C := Try.checked) false ⟨#[], #[.slice none 0 0, .int .i64 0, .int .u32 0], []⟩ 8 (by kernel_rfl) (by kernel_rfl) (by kernel_rfl) (by kernel_rfl)) ?_
  intro W base args ds gs before hval0 hW hcnd _
  have hval : ∀ (j : Nat) t v, Try.f7.params[j]? = some t → args[j]? = some v → Value.okWide Try.prog W .any base t v := hval0
  have hW' := hW
  obtain ⟨p, q, hA0, hV, rfl, hfz, hnd⟩ := hW
  have hA : DataW.TrodAll enc Try.prog W 0 (fun _ => true) true Try.f7.params.toList args.toList ds p := hA0
  rw [Try.params7] at hA hval
  obtain ⟨v0, vs0, d0, ds0, p0, q0, hargs, rfl, rfl, h0, r0⟩ := trodAll_cons hA
  obtain ⟨v1, vs1, d1, ds1, p1, q1, rfl, rfl, rfl, h1, r1⟩ := trodAll_cons r0
  obtain ⟨v2, vs2, d2, ds2, p2, q2, rfl, rfl, rfl, h2, r2⟩ := trodAll_cons r1
  obtain ⟨rfl, rfl, rfl⟩ := trodAll_nil r2
  obtain rfl : args = #[v0, v1, v2] := by cases args; simp_all
  obtain ⟨rfl, rfl⟩ := trodVars_none hV
  obtain ⟨a0, len0, cap0, rfl⟩ := okWide_slice Try.underlying22 (hval 0 22 v0 rfl rfl)
  have k0 := h0
  have lt0 : ∀ x ∈ p0, x.block < W.heap.size := by obtain ⟨m, hm⟩ := k0; exact DataW.trod_lt m _ _ _ hm
  obtain ⟨l0, w0⟩ : ∃ l, Rd W (.slice a0 len0 cap0) l := by
    obtain ⟨fuel, hf⟩ := h0
    rcases open_ints Try.underlying22 Try.underlying5 (by kernel_rfl) hf with ⟨hcs, _⟩ | ⟨x, l, c, zs, hcs, _, hl, hm, hz, _, hcell, hwz⟩
    · simp [Value.cells] at hcs
      obtain ⟨rfl, rfl, rfl⟩ := hcs
      exact ⟨[], Rd.nil _⟩
    · simp [Value.cells] at hcs
      obtain ⟨rfl, rfl, rfl⟩ := hcs
      exact ⟨_, Rd.ofRow hl hm (by simpa using hz) hcell hwz⟩
  obtain ⟨a1, rfl, rfl, rfl, w1⟩ := open_int Try.underlying3 (hval 1 3 v1 rfl rfl) h1
  obtain ⟨a2, rfl, rfl, rfl, w2⟩ := open_int Try.underlying41 (hval 2 41 v2 rfl rfl) h2
  clear hA0 hval0
  refine (walk _ l0 a1 a2 W w0 w1 w2).mono fun e W' ⟨he, bel⟩ => ?_
  subst he
  exact ⟨_, rfl, _, _, _, [], _, [], hW', trodAll_mk1 (shut_bool Try.underlying4 _), (trodAll_cons_mk (Below.trod laidOut (by kernel_rfl) (of_decide_eq_true (by kernel_rfl)) k0 bel lt0) (trodAll_cons_mk (shut_int Try.underlying3 w1) (trodAll_cons_mk (shut_int Try.underlying41 w2) trodAll_mk0))), rfl, bel.frame _, fun h => by cases h⟩

theorem over : Rows.frameBurstsRow.holds Try.pinned (OpenSpec.ofChange Rows.frameBurstsSpec) :=
  OpenClaim.holds_of_wide 7 Try.f7 rfl rfl rfl rfl rfl rfl rfl ⟨rfl, rfl, rfl, rfl, rfl⟩ rfl rfl rfl rfl rfl (by kernel_rfl) Try.func7 (by kernel_rfl)
    (of_decide_eq_true (by kernel_rfl)) (by unfold Func.isWrapper; first | (rw [if_pos (by decide +kernel)]; kernel_rfl) | (rw [if_neg (by decide +kernel)]; exact ⟨rfl, rfl⟩))
    (fun os started H enc _ => lifted os started H enc)

end Go.Proofs.Ytmlagndgccdelaa.frameBursts
namespace Go.Proofs.Ytmlagndgccdelaa

theorem frameBursts_holds : Rows.FrameBurstsSaid := frameBursts.over

end Go.Proofs.Ytmlagndgccdelaa
