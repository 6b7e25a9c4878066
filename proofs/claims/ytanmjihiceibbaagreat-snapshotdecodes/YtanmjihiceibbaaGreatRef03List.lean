/- Contracts of ferrymanref03: Whole, All, Same. -/
import Derived.Test.YtanmjihiceibbaaGreatRef03Dec
import Derived.Deep.RegionHeld
import Derived.Deep.DeepCutAuto
namespace Go.Proofs.YtanmjihiceibbaaGreat
open Go.RowKit

/-- So many bytes are whole frames, whose data are L, and what is behind them tells the rest. -/
def Upto (l : List UInt8) (A : Nat) (L : List (List UInt8)) : Prop :=
  wholeF l = (L ++ (wholeF (l.drop A)).1, A + (wholeF (l.drop A)).2.1, (wholeF (l.drop A)).2.2) ∧ 5 * L.length ≤ A ∧ A ≤ l.length

theorem Upto.start (l : List UInt8) : Upto l 0 [] := ⟨by simp, by simp, by omega⟩

theorem Upto.stop {l : List UInt8} {A : Nat} {L : List (List UInt8)} (h : Upto l A L) (hA : A < l.length) (he : (decF (l.drop A)).2.2 ≠ 0) : wholeF l = (L, A, (decF (l.drop A)).2.2) := by
  have hne : l.drop A ≠ [] := fun e => by
    have := congrArg List.length e
    rw [List.length_drop, List.length_nil] at this
    omega
  rw [h.1, wholeF_stop hne he]
  simp

theorem Upto.whole {l : List UInt8} {A : Nat} {L : List (List UInt8)} (h : Upto l A L) (hA : ¬ A < l.length) : wholeF l = (L, A, 0) := by
  have e : l.drop A = [] := List.drop_of_length_le (by omega)
  rw [h.1, e, wholeF_nil]
  simp

theorem Upto.step {l : List UInt8} {A : Nat} {L : List (List UInt8)} (h : Upto l A L) (hA : A < l.length) (he : (decF (l.drop A)).2.2 = 0) : Upto l (A + (decF (l.drop A)).2.1) (L ++ [(decF (l.drop A)).1]) := by
  have hne : l.drop A ≠ [] := fun e => by
    have := congrArg List.length e
    rw [List.length_drop, List.length_nil] at this
    omega
  have h5 := decF_five he
  have hle := decF_le (l.drop A)
  rw [List.length_drop] at hle
  refine ⟨?_, ?_, by omega⟩
  · rw [h.1, wholeF_step hne he, List.drop_drop]
    simp [Nat.add_assoc]
  · have := h.2.1
    simp
    omega

set_option maxRecDepth 100000 in
set_option maxHeartbeats 1000000 in
theorem refWhole_any (v : Value) (l : List UInt8) (w : World) (hr : Rd w v l) (hlim : l.length ≤ 1000000) :
    Calls Tryz.prog 49 #[v] w fun e w' => ∃ v', e = .returned (.tuple #[v', .int .i64 ((wholeF l).2.1 : Nat), .int .i64 ((wholeF l).2.2 : Nat)]) ∧ OwnL w' w.heap.size v' (wholeF l).1 ∧ Below w.heap.size w w' := by
  have HR := hide hr
  obtain ⟨ao, cap, rfl, hlc, hcm, hn0, hao⟩ := hr
  clear hn0 hao hlc hcm
  have HD := hide (fun v k w h => refDecode_any v (l.drop k) w h)
  go_enter Tryz.func49, Tryz.ntmps49
  go_wp2
  go_loopw [5, 6] (fun vl at' wr => ∃ (A : Nat) (L : List (List UInt8)), at' = .int .i64 (A : Int) ∧ Hid (Upto l A L) ∧ Hid (OwnL wr w.heap.size vl L) ∧ Hid (Below w.heap.size w wr)) (fun _ at' _ => l.length - (intOf at').toNat)
  case atStart => exact ⟨0, [], rfl, Upto.start l, OwnL.nil _ _, Below.refl _ _⟩
  case round =>
    obtain ⟨A, L, rfl, hu, ho, hb⟩ := hrel
    have hAl := hu.out.2.2
    by_cases hlt : A < l.length
    · have HC : Hid (∃ v', (Instr.sliceAt 22 (.slice ao l.length cap) (some (.int .i64 (A : Int))) none none).run Tryz.prog wr = .ok v' wr ∧ Rd wr v' (l.drop A)) := by
        have := run_cut_l wr _ l (HR.out.below hb.out (Nat.le_refl _)) .i64 (A : Int) (by omega) (by omega)
        rwa [Int.toNat_natCast] at this
      have hsw := hb.out.size
      go_wp2_with (refine wpList_cut _ rfl _ _ _ _ rfl _ HC.out ?_)
      intro v1 hr1
      have HV1 := hide hr1
      clear hr1 HC
      go_wp2_with fail
      refine (HD.out _ A _ HV1.out).mono ?_
      rintro e w2 ⟨v2, rfl, ho2, hb2⟩
      have HO2 := hide (ho2.mono hsw)
      have HL2 := hide (ho.out.below hb2 (Nat.le_refl _))
      have HB2 := hide (hb.out.trans (hb2.mono hsw))
      have hs2 := HB2.out.size
      clear ho2 hb2 HV1
      have H5 := hide (fun h => decF_five (l := l.drop A) h)
      have hle := decF_le (l.drop A)
      rw [List.length_drop] at hle
      by_cases he : (decF (l.drop A)).2.2 = 0
      · have HU := hide (hu.out.step hlt he)
        have h5 := H5.out he
        have hLl := hu.out.2.1
        rw [he]
        generalize (decF (l.drop A)).2.1 = m at *
        generalize (decF (l.drop A)).1 = x at *
        clear he H5
        obtain ⟨a2, c2, rfl, _⟩ := HO2.out.rd
        go_wp2_with (at_builtin; refine wpList_append_snoc _ rfl _ _ rfl w.heap.size _ L rfl HL2.out _ x rfl HO2.out (by omega) hs2 ?_)
        intro v3 w3 ho3 hb3
        have HO3 := hide ho3
        have HB3 := hide (HB2.out.trans hb3)
        clear ho3 hb3
        go_wp2
        go_roundw
        case rel => exact ⟨A + m, L ++ [x], by go_num, HU, HO3, HB3⟩
        case measure => simp [intOf]; omega
      · have HE := hide (hu.out.stop hlt he)
        clear H5
        generalize (decF (l.drop A)).2.2 = c at *
        have hne : ((c : Int) != 0) = true := by rw [bne_iff_ne]; omega
        clear he
        go_wp2
        go_ret3
        refine ⟨_, ?_, by rw [HE.out]; exact HL2.out, HB2.out⟩
        rw [HE.out]
        rfl
    · have HE := hide (hu.out.whole hlt)
      go_wp2
      go_ret3
      refine ⟨_, ?_, by rw [HE.out]; exact ho.out, hb.out⟩
      rw [HE.out]
      rfl

/-- What All answers. -/
def allF (l : List UInt8) : List (List UInt8) × Nat := if (wholeF l).2.2 = 0 then ((wholeF l).1, 0) else ([], (wholeF l).2.2)

set_option maxRecDepth 100000 in
set_option maxHeartbeats 1000000 in
theorem refAll_any (v : Value) (l : List UInt8) (w : World) (hr : Rd w v l) (hlim : l.length ≤ 1000000) :
    Calls Tryz.prog 18 #[v] w fun e w' => ∃ v', e = .returned (.tuple #[v', .int .i64 ((allF l).2 : Nat)]) ∧ OwnL w' w.heap.size v' (allF l).1 ∧ Below w.heap.size w w' := by
  have HW := hide (refWhole_any v l w hr hlim)
  clear hr
  go_enter Tryz.func18, Tryz.ntmps18
  go_wp2_with fail
  refine HW.out.mono ?_
  rintro e w2 ⟨v2, rfl, ho2, hb2⟩
  have HO2 := hide ho2
  have HB2 := hide hb2
  clear ho2 hb2 HW
  by_cases he : (wholeF l).2.2 = 0
  · have HE : Hid (allF l = ((wholeF l).1, 0)) := if_pos he
    rw [he]
    clear he
    generalize (wholeF l).2.1 = m at *
    go_wp2
    go_ret2
    refine ⟨_, ?_, by rw [HE.out]; exact HO2.out, HB2.out⟩
    rw [HE.out]
    rfl
  · have HE : Hid (allF l = ([], (wholeF l).2.2)) := if_neg he
    generalize (wholeF l).2.1 = m at *
    generalize (wholeF l).2.2 = c at *
    have hne : ((c : Int) != 0) = true := by rw [bne_iff_ne]; omega
    clear he
    go_wp2
    go_ret2
    refine ⟨_, ?_, by rw [HE.out]; exact OwnL.nil _ _, HB2.out⟩
    rw [HE.out]
    rfl

end Go.Proofs.YtanmjihiceibbaaGreat
