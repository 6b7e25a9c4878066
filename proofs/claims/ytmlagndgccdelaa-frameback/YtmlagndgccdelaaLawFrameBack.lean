/- Proved: for all data and all bytes behind them the law FrameBack answers true (and the call leaves all older memory as it was). No condition. -/
import Derived.Test.YtmlagndgccdelaaFrameAwake
import Derived.OpenShut
import Derived.ChangeOld
namespace Go.Proofs.Ytmlagndgccdelaa.frameBack
open Go.ChangeShapes Go.WideShapes Go.ChangeAt Go.RowKit

/-- Bytes of which k are overwritten. -/
def sevens (a : List UInt8) (k : Nat) : List UInt8 := List.replicate k 7 ++ a.drop k

theorem sevens_length (a : List UInt8) (k : Nat) (h : k ≤ a.length) : (sevens a k).length = a.length := by simp [sevens]; omega

theorem sevens_set (a : List UInt8) (k : Nat) (h : k < a.length) : (Lib.byteCells (sevens a k)).set k (.int .u8 7) = Lib.byteCells (sevens a (k + 1)) := by
  unfold sevens
  rw [List.replicate_succ', List.drop_eq_getElem_cons h]
  simp only [Lib.byteCells, List.map_append, List.map_cons, List.map_nil]
  rw [List.set_append_right _ _ (by simp)]
  simp

set_option maxRecDepth 100000 in
set_option maxHeartbeats 1000000 in
theorem walk (va : Value) (a : List UInt8) (vb : Value) (b : List UInt8) (w : World) (hra : Rd w va a) (hrb : Rd w vb b) :
    Calls Try.prog 5 #[va, vb] w fun e w' => e = .returned (.bool true) ∧ Below w.heap.size w w' := by
  have HA := hide (awake_any w)
  have HRA := hide hra
  have HRB := hide hrb
  obtain ⟨aa, capa, rfl, _, hcma, _, _⟩ := hra
  obtain ⟨ab, capb, rfl, _, hcmb, _, _⟩ := hrb
  by_cases hl : (a.length : Int) ≤ 5000
  · by_cases hlb : (b.length : Int) ≤ 100
    · have hF : (frameOf a).length ≤ 6000 := by
        have h3 : (Lib.uvarint a.length).length ≤ 3 := len3 (by omega)
        rw [frameOf_length]
        omega
      have C1 : Hid (∀ w1, Below w.heap.size w w1 → Calls Try.prog 10 #[.slice aa a.length capa] w1 fun e w' => ∃ ao cap, e = .returned (.tuple #[.slice ao (frameOf a).length cap, .int .i64 0]) ∧ Rd w' (.slice ao (frameOf a).length cap) (frameOf a) ∧ Below w1.heap.size w1 w') := by
        intro w1 hb
        refine (encode_any _ a w1 (HRA.out.below hb (Nat.le_refl _))).mono ?_
        have e : encF a = (frameOf a, 0) := if_pos (by omega)
        rw [e]
        rintro e w' ⟨v', rfl, ho, hb⟩
        have hr := ho.rd
        obtain ⟨ao, cap, rfl, _⟩ := ho.rd
        exact ⟨ao, cap, rfl, hr, hb⟩
      have C2 : Hid (∀ v w1, Rd w1 v (frameOf a ++ b) → Calls Try.prog 14 #[v] w1 fun e w' => ∃ ao cap, e = .returned (.tuple #[.slice ao a.length cap, .int .i64 ((frameOf a).length : Nat), .int .i64 0]) ∧ Own w' w1.heap.size (.slice ao a.length cap) a ∧ Below w1.heap.size w1 w') := by
        intro v w1 h
        refine (decode_any _ _ w1 h).mono ?_
        rintro e w' ⟨v', rfl, ho, hb⟩
        rw [decF_frame a b (by omega)] at ho ⊢
        obtain ⟨ao, cap, rfl, _⟩ := ho.rd
        exact ⟨ao, cap, rfl, ho, hb⟩
      generalize frameOf a = F at *
      clear hcma hcmb
      go_enter Try.func5, Try.ntmps5
      go_wp2_with fail
      refine HA.out.mono ?_
      rintro e w1 ⟨rfl, hb⟩
      have HB1 := hide hb
      clear hb HA
      go_wp2_with fail
      refine (C1.out _ HB1.out).mono ?_
      rintro e w2 ⟨a2, c2, rfl, hr2, hb2⟩
      have HB2 := hide (HB1.out.trans (hb2.mono HB1.out.size))
      have HR2 := hide hr2
      have hs2 := HB2.out.size
      clear hb2 hr2 C1
      go_wp2_with (at_builtin; refine wpList_append_rd _ rfl _ _ rfl w2.heap.size _ [] rfl (Own.nil _ _) _ F rfl HR2.out (by simp; omega) (Nat.le_refl _) ?_)
      intro v3 w3 ho3 hb3
      have HO3 : Hid (Own w3 w2.heap.size v3 F) := ho3
      have HB3 := hide (HB2.out.trans (hb3.mono hs2))
      have hs3 := hb3.size
      clear ho3 hb3 HR2
      go_wp2_with (at_builtin; refine wpList_append_rd _ rfl _ _ rfl w2.heap.size _ F rfl HO3.out _ b rfl (HRB.out.below HB3.out (Nat.le_refl _)) (by omega) (by omega) ?_)
      intro v4 w4 ho4 hb4
      have HR4 := hide ho4.rd
      have HB4 := hide (HB3.out.trans (hb4.mono hs2))
      have hs4 := HB4.out.size
      clear ho4 hb4 HO3
      go_wp2_with fail
      refine (C2.out _ _ HR4.out).mono ?_
      rintro e w5 ⟨a5, c5, rfl, ho5, hb5⟩
      have HB5 := hide (HB4.out.trans (hb5.mono hs4))
      have HB45 := hide hb5
      have hcv := ho5.rd.str
      have hcd := (HRA.out.below HB5.out (Nat.le_refl _)).str
      have HO5 := hide ho5
      clear ho5 hb5
      go_wp2
      go_loopw [12] (fun i wr => ∃ k : Nat, k ≤ a.length ∧ i = .int .i64 (k : Int) ∧ Hid (Own wr w4.heap.size (.slice a5 a.length c5) (sevens a k)) ∧ Hid (Below w4.heap.size w4 wr)) (fun i _ => a.length - (intOf i).toNat)
      case atStart => exact ⟨0, Nat.zero_le _, rfl, HO5, HB45⟩
      case round =>
        obtain ⟨k, hk, rfl, ho, hb⟩ := hrel
        clear hcv hcd
        by_cases hlt : k < a.length
        · obtain ⟨g, hg⟩ : ∃ g, a5 = some ⟨g, 0, none⟩ ∧ w4.heap.size ≤ g := by
            rcases ho.out.2 with ⟨hv, hn⟩ | ⟨g, cap, cur, hv, hbg, _⟩
            · rw [sevens_length a k hk] at hn; omega
            · simp only [Value.slice.injEq] at hv
              exact ⟨g, hv.1, hbg⟩
          obtain ⟨rfl, hg4⟩ := hg
          have HOW : Hid (wr.ownsRow w4.heap.size 5 1 (.slice (some ⟨g, 0, none⟩) a.length c5) a.length (Lib.byteCells (sevens a k))) := by
            have h := ho.out
            unfold Own at h
            rwa [sevens_length a k hk] at h
          have hcell : wr.cell? ⟨g, k, none⟩ = some (.int .u8 ((sevens a k).getD k 0).toNat) := by
            rw [World.ownsRow.cellAt HOW.out k (by omega), byteCells_get _ _ (by rw [sevens_length a k hk]; exact hlt)]
          have hfr : wr.frozen? ⟨g, k, none⟩ = false := World.ownsRow.frozenAt HOW.out k
          have HST : Hid (Own (wr.setCell ⟨g, k, none⟩ (.int .u8 7)) w4.heap.size (.slice (some ⟨g, 0, none⟩) a.length c5) (sevens a (k + 1))) := by
            have hs := World.ownsRow.stored HOW.out k (Value.int .u8 7)
            rw [sevens_set a k hlt] at hs
            exact Own.mk' hs.1 (by rw [sevens_length a (k + 1) hlt]) rfl
          generalize ((sevens a k).getD k 0).toNat = y at *
          clear HOW
          go_wp2
          go_roundw
          case rel => exact ⟨k + 1, by omega, by go_num, HST, hb.out.setCell hg4 _⟩
          case measure => simp [intOf]; omega
        · have hB6 := HB4.out.trans (hb.out.mono hs4)
          have HB6 := hide hB6
          have HR6 := hide (HR4.out.below hb.out (Nat.le_refl _))
          clear hB6
          go_wp2_with fail
          refine (C2.out _ _ HR6.out).mono ?_
          rintro e w7 ⟨a7, c7, rfl, ho7, hb7⟩
          have HB7 := hide (HB6.out.trans (hb7.mono HB6.out.size))
          have hcv := ho7.rd.str
          have hcd := (HRA.out.below HB7.out (Nat.le_refl _)).str
          clear ho7 hb7
          go_wp2
          go_ret
          exact ⟨rfl, HB7.out⟩
    · go_enter Try.func5, Try.ntmps5
      go_wp2_with fail
      refine HA.out.mono ?_
      rintro e w1 ⟨rfl, hb⟩
      have HB1 := hide hb
      clear hb HA
      go_wp2
      go_ret
      exact ⟨rfl, HB1.out⟩
  · go_enter Try.func5, Try.ntmps5
    go_wp2_with fail
    refine HA.out.mono ?_
    rintro e w1 ⟨rfl, hb⟩
    have HB1 := hide hb
    clear hb HA
    go_wp2
    go_ret
    exact ⟨rfl, HB1.out⟩

theorem own : ownKnob Try.prog.godebug = none := by kernel_rfl
theorem laidOut : laidOutB Try.prog = true := by kernel_rfl

set_option linter.unusedVariables false in
set_option maxRecDepth 100000 in
theorem lifted (os : Os) (started : os.Started) (H : Type) (enc : TypeId × Value → H) :
    ReturnsInHanded {} Try.checked os 5 .any (Rows.frameBackSpec.pre6 enc Try.prog Try.f5 Rows.frameBackRow.domain false) (Rows.frameBackSpec.post enc Try.prog Try.f5 false true false false) := by
  refine returnsInHanded_of_change (C := Try.checked) own started (by kernel_rfl) Try.func5
    (ChangeSpec.witness6 (enc := enc) (C := Try.checked) false ⟨#[], #[.slice none 0 0, .slice none 0 0], []⟩ 8 (by kernel_rfl) (by kernel_rfl) (by kernel_rfl) (by kernel_rfl)) ?_
  intro W base args ds gs before hval0 hW hcnd _
  have hval : ∀ (j : Nat) t v, Try.f5.params[j]? = some t → args[j]? = some v → Value.okWide Try.prog W .any base t v := hval0
  have hW' := hW
  obtain ⟨p, q, hA0, hV, rfl, hfz, hnd⟩ := hW
  have hA : DataW.TrodAll enc Try.prog W 0 (fun _ => true) true Try.f5.params.toList args.toList ds p := hA0
  rw [Try.params5] at hA hval
  obtain ⟨v0, vs0, d0, ds0, p0, q0, hargs, rfl, rfl, h0, r0⟩ := trodAll_cons hA
  obtain ⟨v1, vs1, d1, ds1, p1, q1, rfl, rfl, rfl, h1, r1⟩ := trodAll_cons r0
  obtain ⟨rfl, rfl, rfl⟩ := trodAll_nil r1
  obtain rfl : args = #[v0, v1] := by cases args; simp_all
  obtain ⟨rfl, rfl⟩ := trodVars_none hV
  obtain ⟨a0, len0, cap0, rfl⟩ := okWide_slice Try.underlying22 (hval 0 22 v0 rfl rfl)
  have k0 := h0
  have lt0 : ∀ x ∈ p0, x.block < W.heap.size := by obtain ⟨m, hm⟩ := k0; exact DataW.trod_lt m _ _ _ hm
  obtain ⟨l0, w0⟩ : ∃ l, Rd W (.slice a0 len0 cap0) l := by
    obtain ⟨fuel, hf⟩ := h0
    rcases open_ints Try.underlying22 Try.underlying5 (by kernel_rfl) hf with ⟨hcs, _⟩ | ⟨x, l, c, zs, hcs, _, hl, hm, hz, _, hcell, hwz⟩
    · simp [Value.cells] at hcs
      obtain ⟨rfl, rfl, rfl⟩ := hcs
      exact ⟨[], Rd.nil _⟩
    · simp [Value.cells] at hcs
      obtain ⟨rfl, rfl, rfl⟩ := hcs
      exact ⟨_, Rd.ofRow hl hm (by simpa using hz) hcell hwz⟩
  obtain ⟨a1, len1, cap1, rfl⟩ := okWide_slice Try.underlying22 (hval 1 22 v1 rfl rfl)
  have k1 := h1
  have lt1 : ∀ x ∈ p1, x.block < W.heap.size := by obtain ⟨m, hm⟩ := k1; exact DataW.trod_lt m _ _ _ hm
  obtain ⟨l1, w1⟩ : ∃ l, Rd W (.slice a1 len1 cap1) l := by
    obtain ⟨fuel, hf⟩ := h1
    rcases open_ints Try.underlying22 Try.underlying5 (by kernel_rfl) hf with ⟨hcs, _⟩ | ⟨x, l, c, zs, hcs, _, hl, hm, hz, _, hcell, hwz⟩
    · simp [Value.cells] at hcs
      obtain ⟨rfl, rfl, rfl⟩ := hcs
      exact ⟨[], Rd.nil _⟩
    · simp [Value.cells] at hcs
      obtain ⟨rfl, rfl, rfl⟩ := hcs
      exact ⟨_, Rd.ofRow hl hm (by simpa using hz) hcell hwz⟩
  clear hA0 hval0
  refine (walk _ l0 _ l1 W w0 w1).mono fun e W' ⟨he, bel⟩ => ?_
  subst he
  exact ⟨_, rfl, _, _, _, [], _, [], hW', trodAll_mk1 (shut_bool Try.underlying4 _), (trodAll_cons_mk (Below.trod laidOut (by kernel_rfl) (of_decide_eq_true (by kernel_rfl)) k0 bel lt0) (trodAll_cons_mk (Below.trod laidOut (by kernel_rfl) (of_decide_eq_true (by kernel_rfl)) k1 bel lt1) trodAll_mk0)), rfl, bel.frame _, fun h => by cases h⟩

theorem over : Rows.frameBackRow.holds Try.pinned (OpenSpec.ofChange Rows.frameBackSpec) :=
  OpenClaim.holds_of_wide 5 Try.f5 rfl rfl rfl rfl rfl rfl rfl ⟨rfl, rfl, rfl, rfl, rfl⟩ rfl rfl rfl rfl rfl (by kernel_rfl) Try.func5 (by kernel_rfl)
    (of_decide_eq_true (by kernel_rfl)) (by unfold Func.isWrapper; first | (rw [if_pos (by decide +kernel)]; kernel_rfl) | (rw [if_neg (by decide +kernel)]; exact ⟨rfl, rfl⟩))
    (fun os started H enc _ => lifted os started H enc)

end Go.Proofs.Ytmlagndgccdelaa.frameBack
namespace Go.Proofs.Ytmlagndgccdelaa

theorem frameBack_holds : Rows.FrameBackSaid := frameBack.over

end Go.Proofs.Ytmlagndgccdelaa
