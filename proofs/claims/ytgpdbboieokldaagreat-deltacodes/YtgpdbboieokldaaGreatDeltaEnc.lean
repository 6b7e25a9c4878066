/- Contract of delta: Encode. -/
import Derived.Test.YtgpdbboieokldaaGreatDeltaData
import Derived.Test.YtgpdbboieokldaaGreatDeltaMay
import Derived.Test.YtgpdbboieokldaaGreatFrameOwn
namespace Go.Proofs.YtgpdbboieokldaaGreat
open Go.RowKit

/-- What is encoded: the bytes, or none and ErrArg. -/
def EncodedD (w : World) (d : Delt) (e : Ending) (w' : World) : Prop :=
  ∃ v', e = .returned (.tuple #[v', .int .i64 (if MayD d then 0 else 1)]) ∧ Own w' w.heap.size v' (if MayD d then encD d else []) ∧ Below w.heap.size w w'

set_option maxRecDepth 100000 in
set_option maxHeartbeats 2000000 in
theorem encodeD_any (v : Value) (d : Delt) (w : World) (hd : DlV w v d) :
    Calls Tryz.prog 6 #[v] w fun e w' => EncodedD w d e w' := by
  have HMY := hide (fun W (h : Below w.heap.size w W) => mayD_any v d W (hd.below h (Nat.le_refl _)))
  have HDO := hide (fun (hm : MayD d) W (h : Below w.heap.size w W) => dataOf_any v d W (hd.below h (Nat.le_refl _)) hm)
  obtain ⟨ma, mc, ta, tc, rfl, -, -⟩ := hd.shape
  have HB0 : Hid (∀ X, Below w.heap.size w (w.alloc X)) := fun X => (Below.refl _ _).alloc (Nat.le_refl _) X
  have HX0 : Hid (∀ cs, Bd (w.alloc (.cells cs 25)) w.heap.size cs) := fun cs => heap_alloc_new w _
  have HLN := hide (fun h => encD_len (d := d) h)
  unfold EncodedD
  clear hd
  by_cases hm : MayD d
  case neg =>
    simp only [if_neg hm]
    rw [decide_eq_false hm] at HMY
    clear hm HDO HLN
    obtain ⟨fr, up, ah, bh, mid, sh, en, tab⟩ := d
    dsimp only at *
    go_enter Tryz.func6, Tryz.ntmps6
    go_wp2_with fail
    refine (HMY.out _ (HB0.out _)).mono ?_
    rintro e W1 ⟨rfl, hb1⟩
    have HB1 := hide ((HB0.out _).trans (hb1.mono (HB0.out _).size))
    clear hb1
    go_wp2
    go_ret2
    exact ⟨_, rfl, Own.nil _ _, HB1.out⟩
  simp only [if_pos hm]
  rw [decide_eq_true hm] at HMY
  have HDQ := hide (HDO.out hm)
  have hln := HLN.out hm
  have HEF := hide (fun v W h => encode_any v (dataD d) W h)
  have hef : encF (dataD d) = (frameOf (dataD d), 0) := by
    unfold encF
    rw [if_pos (by omega)]
  rw [hef] at HEF
  dsimp only at HEF
  have HEN : Hid (encD d = frameOf (dataD d)) := hide rfl
  rw [HEN.out]
  generalize frameOf (dataD d) = FR at *
  generalize dataD d = DD at *
  clear hm HDO HLN hln hef HEN
  obtain ⟨fr, up, ah, bh, mid, sh, en, tab⟩ := d
  dsimp only at *
  go_enter Tryz.func6, Tryz.ntmps6
  go_wp2_with fail
  refine (HMY.out _ (HB0.out _)).mono ?_
  rintro e W1 ⟨rfl, hb1⟩
  have HX1 := hide ((HX0.out _).below hb1 (Nat.le_refl _))
  have HB1 := hide ((HB0.out _).trans (hb1.mono (HB0.out _).size))
  clear hb1 HMY
  obtain ⟨⟨p0, p1, p2, p3, p4, p5, p6, p7⟩, -⟩ := HX1.out.all
  go_wp2_with fail
  refine (HDQ.out _ HB1.out).mono ?_
  rintro e W2 ⟨v2, rfl, ho2, hb2⟩
  obtain ⟨a2, c2, hv⟩ : ∃ a c, v2 = .slice a DD.length c := by obtain ⟨a, c, h, -⟩ := ho2.rd; exact ⟨a, c, h⟩
  subst hv
  have HR2 := hide ho2.rd
  have HB2 := hide (HB1.out.trans (hb2.mono HB1.out.size))
  clear ho2 hb2 HDQ
  go_wp2_with fail
  refine (HEF.out _ _ HR2.out).mono ?_
  rintro e W3 ⟨v3, rfl, ho3, hb3⟩
  have HO3 := hide (ho3.mono HB2.out.size)
  have HB3 := hide (HB2.out.trans (hb3.mono HB2.out.size))
  clear ho3 hb3
  go_wp2
  go_ret2
  exact ⟨_, rfl, HO3.out, HB3.out⟩

end Go.Proofs.YtgpdbboieokldaaGreat
