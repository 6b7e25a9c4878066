/- Contracts of ferrymanref03: Encode, Size, open, Decode. -/
import Derived.Test.YtanmjihiceibbaaGreatPack2
import Derived.Test.YtanmjihiceibbaaGreatFrameLists
import Derived.Test.YtanmjihiceibbaaGreatPack4
import Derived.Test.YtanmjihiceibbaaGreatCrcRef
namespace Go.Proofs.YtanmjihiceibbaaGreat
open Go.RowKit

/-- What Encode answers. -/
def encF (l : List UInt8) : List UInt8 × Nat := if l.length ≤ 1048576 then (frameOf l, 0) else ([], 5)

theorem ret_tup2 {v : Value} {k : IntKind} {a b : Int} (h : a = b) : Ending.returned (.tuple #[v, .int k a]) = .returned (.tuple #[v, .int k b]) := by rw [h]

theorem ret_tup3 {v : Value} {k k' : IntKind} {a b c d : Int} (h : a = b) (h' : c = d) : Ending.returned (.tuple #[v, .int k a, .int k' c]) = .returned (.tuple #[v, .int k b, .int k' d]) := by rw [h, h']

set_option maxRecDepth 100000 in
theorem refOpen_any (v : Value) (l : List UInt8) (w : World) (hr : Rd w v l) :
    Calls Tryz.prog 111 #[v] w fun e w' => e = .returned (.bool (decide (isOpen l))) ∧ w' = w := by
  obtain ⟨ao, cap, rfl, hlc, hcm, hn0, hao⟩ := hr
  clear hn0
  have hml : (l.length : Int) ≤ 9223372036854775807 := by unfold maxLen at hcm; omega
  go_enter Tryz.func111, Tryz.ntmps111
  go_wp2
  go_loop [3] (fun i => ∃ k : Nat, i = .int .i64 k ∧ k ≤ l.length ∧ Hid (∀ j, j < k → 128 ≤ (l.getD j 0).toNat)) (fun i => l.length - (intOf i).toNat)
  case atStart => exact ⟨0, rfl, by omega, fun j hj => by omega⟩
  case round =>
    obtain ⟨k, rfl, hkl, hall⟩ := hrel
    by_cases hlt : k < l.length
    · rcases hao with hao | ⟨b, off, rfl, hc⟩
      · subst hao; simp at hlt
      · have hck := hc k hlt
        clear hc
        obtain ⟨y, hy⟩ : ∃ y, y = (l.getD k 0).toNat := ⟨_, rfl⟩
        rw [← hy] at hck
        have HY : Hid (y = (l.getD k 0).toNat) := hy
        clear hy
        by_cases hyb : (y : Int) < 128
        · go_wp2
          go_ret
          refine ⟨ret_bool ?_, rfl⟩
          symm
          refine decide_eq_false fun ho => ?_
          have := ho.2 k hlt
          rw [← HY.out] at this
          omega
        · go_wp2
          go_round
          case rel =>
            refine ⟨k + 1, by go_num, by omega, fun j hj => ?_⟩
            by_cases e : j = k
            · rw [e, ← HY.out]; omega
            · exact hall.out j (by omega)
          case measure => simp [intOf]; omega
    · by_cases h10 : (l.length : Int) < 10
      all_goals
        go_wp2
        go_ret
        refine ⟨ret_bool ?_, rfl⟩
        symm
        first
          | exact decide_eq_true ⟨by omega, fun j hj => hall.out j (by omega)⟩
          | exact decide_eq_false fun ho => by have := ho.1; omega

end Go.Proofs.YtanmjihiceibbaaGreat
