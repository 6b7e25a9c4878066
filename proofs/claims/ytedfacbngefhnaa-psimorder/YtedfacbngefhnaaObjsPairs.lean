/- Contracts of objs: place, look, put, drop. -/
import Derived.Test.YtedfacbngefhnaaObjsIs
import Derived.Test.YtedfacbngefhnaaObjsLib
import Derived.Test.YtedfacbngefhnaaPack1
namespace Go.Proofs.Ytedfacbngefhnaa
open Go.RowKit

theorem ret_ib {a b : Int} {c d : Bool} (h : a = b) (h2 : c = d) : Ending.returned (.tuple #[.int .i64 a, .bool c]) = .returned (.tuple #[.int .i64 b, .bool d]) := by rw [h, h2]

set_option maxRecDepth 100000 in
set_option maxHeartbeats 1000000 in
theorem place_any (v : Value) (l : List Int) (key : Int) (w : World) (hr : RdI w v l) (he : l.length % 2 = 0) (hlim : l.length ≤ 1000000) :
    Calls Try.prog 77 #[v, .int .i64 key] w fun e w' => e = .returned (.tuple #[.int .i64 (placeP key l), .bool (decide (placeP key l < l.length ∧ l.getD (placeP key l) 0 = key))]) ∧ Below w.heap.size w w' := by
  obtain ⟨ao, cap, rfl, -, -, -, -, hao⟩ := hr
  have HAO := hide' hao
  clear hao
  obtain ⟨P, hP⟩ : ∃ P, P = placeP key l := ⟨_, rfl⟩
  obtain ⟨R, hR⟩ : ∃ R, R = decide (P < l.length ∧ l.getD P 0 = key) := ⟨_, rfl⟩
  rw [← hP, ← hR]
  have HP := hide' hP
  have HR := hide' hR
  clear hP hR
  go_enter Try.func77, Try.ntmps77
  go_wp2
  go_loop [6] (fun i => ∃ k : Nat, i = .int .i64 k ∧ k ≤ l.length ∧ k % 2 = 0 ∧ Hid (∀ j, j < k → j % 2 = 0 → l.getD j 0 < key)) (fun i => l.length - (intOf i).toNat)
  case atStart => exact ⟨0, rfl, Nat.zero_le _, rfl, fun j hj => by omega⟩
  case round =>
    obtain ⟨k, rfl, hk, hk2, hall⟩ := hrel
    have HPK : Hid (P = k + placeP key (l.drop k)) := HP.out.trans (placeP_drop key l k he hk2 hk hall.out)
    by_cases hlt : k < l.length
    · rcases HAO.out with h0 | ⟨g, off, rfl, hc⟩
      · rw [h0] at hlt; simp at hlt
      have hck := hc k hlt
      clear hc
      obtain ⟨y, hy⟩ : ∃ y, y = l.getD k 0 := ⟨_, rfl⟩
      rw [← hy] at hck
      have HY := hide' hy
      clear hy
      by_cases hge : key ≤ y
      · have HK : Hid (P = k) := HPK.out.trans (by rw [placeP_stop key l k (by omega) (by rw [← HY.out]; exact hge)]; exact Nat.add_zero k)
        have HG : Hid (R = (y == key)) := by
          rw [HR.out, HK.out, ← HY.out]
          by_cases e : y = key
          · rw [beq_iff_eq.2 e]; exact decide_eq_true ⟨hlt, e⟩
          · rw [beq_eq_false_iff_ne.2 e]; exact decide_eq_false (fun h => e h.2)
        have hbk : (k : Int) < (l.length : Int) := by omega
        go_wp2
        go_quiet (fail)
        go_wp2
        go_ret2
        exact ⟨ret_ib (by rw [HK.out]) HG.out.symm, below_drewN (Below.refl _ _) _⟩
      · go_wp2
        go_round
        case rel =>
          refine ⟨k + 2, by go_num, by omega, by omega, fun j hj hj2 => ?_⟩
          by_cases e : j = k
          · rw [e, ← HY.out]; omega
          · exact hall.out j (by omega) hj2
        case measure => simp [intOf]; omega
    · have HK : Hid (P = l.length) := by
        have e : k = l.length := by omega
        rw [HPK.out, e, List.drop_length]
        exact rfl
      have HG : Hid (R = false) := HR.out.trans (decide_eq_false (fun h => by have := h.1; rw [HK.out] at this; omega))
      go_wp2
      go_ret2
      exact ⟨ret_ib (by rw [HK.out]) HG.out.symm, Below.refl _ _⟩

/-- place, of pairs. -/
theorem placeH_any (v : Value) (l : List Int) (key least lo : Int) (w : World) (hr : RdI w v l) (hp : Pairs least lo l) (hlim : l.length ≤ 1000000) :
    Calls Try.prog 77 #[v, .int .i64 key] w fun e w' => e = .returned (.tuple #[.int .i64 (placeP key l), .bool (hitP key l)]) ∧ Below w.heap.size w w' := by
  rw [(placeP_hit key least l lo hp).1]
  exact place_any v l key w hr (pairs_even hp) hlim

theorem pairs_i64 {least : Int} : ∀ {l : List Int} {lo : Int}, -1099511627776 ≤ least → -1 ≤ lo → Pairs least lo l → ∀ x ∈ l, I64 x
  | [], _, _, _, _, x, hx => by simp at hx
  | [_], _, _, _, h, _, _ => by simp [Pairs] at h
  | a :: b :: r, lo, hl, hlo, h, x, hx => by
    unfold Pairs at h
    have ih := pairs_i64 (l := r) (lo := a) hl (by omega) h.2.2.2.2 x
    simp at hx
    rcases hx with rfl | rfl | hx
    · exact i64_small (by omega) (by omega)
    · exact i64_small (by omega) (by omega)
    · exact ih hx

set_option maxRecDepth 100000 in
set_option maxHeartbeats 1000000 in
theorem look_any (v : Value) (l : List Int) (key least lo : Int) (w : World) (hr : RdI w v l) (hp : Pairs least lo l) (hlim : l.length ≤ 1000000) :
    Calls Try.prog 70 #[v, .int .i64 key] w fun e w' => e = .returned (.tuple #[.int .i64 ((getP key l).getD 0), .bool (hitP key l)]) ∧ Below w.heap.size w w' := by
  have HPL : Hid (Calls Try.prog 77 #[v, .int .i64 key] w fun e w' => e = .returned (.tuple #[.int .i64 (placeP key l), .bool (hitP key l)]) ∧ Below w.heap.size w w') := placeH_any v l key least lo w hr hp hlim
  have HH := hide' (placeP_hit key least l lo hp).2
  obtain ⟨ao, cap, rfl, -, -, -, -, hao⟩ := hr
  have HAO := hide' hao
  obtain ⟨G, hG⟩ : ∃ G, G = (getP key l).getD 0 := ⟨_, rfl⟩
  rw [← hG]
  have HG := hide' hG
  clear hao hp hG
  cases hh : hitP key l
  · rw [hh] at HPL
    have HZ : Hid (0 = G) := by
      have : getP key l = none := by
        unfold hitP at hh
        cases h : getP key l with
        | none => rfl
        | some x => rw [h] at hh; simp at hh
      rw [HG.out, this]
      exact rfl
    clear hh HH
    go_enter Try.func70, Try.ntmps70
    go_wp2_with fail
    refine HPL.out.mono ?_
    rintro e W1 ⟨rfl, hb1⟩
    have HB1 := hide' hb1
    clear hb1
    go_wp2
    go_ret2
    exact ⟨ret_ib HZ.out rfl, HB1.out⟩
  · rw [hh] at HPL
    obtain ⟨h1, h2⟩ := HH.out hh
    have HZ : Hid (l.getD (placeP key l + 1) 0 = G) := by
      rw [HG.out, h1]
      exact rfl
    rcases HAO.out with h0 | ⟨g, off, rfl, hc⟩
    · rw [h0] at h2; simp at h2
    have HC : Hid (∀ W, Below w.heap.size w W → W.cell? ⟨g, off + (placeP key l + 1), none⟩ = some (.int .i64 (l.getD (placeP key l + 1) 0))) := fun W h => (h.cell (World.block_lt_of_cell? w ⟨g, off + (placeP key l + 1), none⟩ (hc _ h2))).trans (hc _ h2)
    clear hh HH h1 HAO hc HG
    generalize l.getD (placeP key l + 1) 0 = y at *
    generalize placeP key l = P at *
    have hPl : (P : Int) + 1 < (l.length : Int) := by omega
    clear h2
    go_enter Try.func70, Try.ntmps70
    go_wp2_with fail
    refine HPL.out.mono ?_
    rintro e W1 ⟨rfl, hb1⟩
    have HB1 := hide' hb1
    have hg := HC.out _ hb1
    clear hb1
    go_wp2
    go_ret2
    exact ⟨ret_ib HZ.out rfl, HB1.out⟩

set_option maxRecDepth 100000 in
set_option maxHeartbeats 1000000 in
theorem putO_any (v : Value) (l : List Int) (key n least lo : Int) (B : Nat) (w : World) (ho : OwnI w B v l) (hB : B ≤ w.heap.size) (hi : ∀ x ∈ l, I64 x) (hp : Pairs least lo l) (hlim : l.length ≤ 1000000) :
    Calls Try.prog 73 #[v, .int .i64 key, .int .i64 n] w fun e w' => ∃ v', e = .returned v' ∧ OwnI w' B v' (withF key n false l) ∧ Mv w w' v v' := by
  have HPL : Hid (Calls Try.prog 77 #[v, .int .i64 key] w fun e w' => e = .returned (.tuple #[.int .i64 (placeP key l), .bool (hitP key l)]) ∧ Below w.heap.size w w') := placeH_any v l key least lo w (ho.rd hi) hp hlim
  have hle := (placeP_le key l (pairs_even hp)).1
  have HH := hide' (placeP_hit key least l lo hp).2
  have HO := hide' ho
  cases hh : hitP key l
  · rw [hh] at HPL
    have HW := hide' (withF_insert key n least l lo hp hh)
    have HI : Hid (∀ W, OwnI W B v l → B ≤ W.heap.size → Calls Try.prog 78 #[v, .int .i64 (placeP key l), .slice (some ⟨W.heap.size, 0, none⟩) 2 2] (W.alloc (.cells #[.int .i64 key, .int .i64 n] 3)) fun e w' => ∃ v', e = .returned v' ∧ OwnI w' B v' (l.take (placeP key l) ++ ([key, n] ++ l.drop (placeP key l))) ∧ Mv W w' v v') :=
      fun W h1 h2 => insertI_any v l B W h1 h2 hlim (placeP key l) hle _ rfl key n _ rfl
    obtain ⟨L', hL'⟩ : ∃ L', L' = withF key n false l := ⟨_, rfl⟩
    rw [← hL']
    rw [← hL'] at HW
    have HWS := hide' HW.out.symm
    rw [HWS.out] at HI
    clear hL' HW HWS ho hp HH hh hle
    generalize placeP key l = P at *
    go_enter Try.func73, Try.ntmps73
    go_wp2_with fail
    refine HPL.out.mono ?_
    rintro e W1 ⟨rfl, hb1⟩
    have HB1 := hide' hb1
    clear hb1
    go_wp2_with fail
    refine (HI.out W1 (HO.out.below HB1.out (Nat.le_refl _)) (Nat.le_trans hB HB1.out.size)).mono ?_
    rintro e W2 ⟨v2, rfl, ho2, hb2⟩
    have HB2 := hide' ((Mv.ofBelow HB1.out v).trans hb2)
    have HO2 := hide' ho2
    clear hb2 ho2
    go_wp2
    go_ret
    exact ⟨_, rfl, HO2.out, HB2.out⟩
  · rw [hh] at HPL
    have HW := hide' (withF_set key n least l lo hp hh)
    obtain ⟨h1, h2⟩ := HH.out hh
    obtain ⟨L', hL'⟩ : ∃ L', L' = withF key n false l := ⟨_, rfl⟩
    rw [← hL']
    rw [← hL'] at HW
    have hsh := ho.put _ h2 n
    obtain ⟨g, cap, rfl, -, -, hBg, hgl, -, -⟩ := hsh
    have HS : Hid (∀ W, Below w.heap.size w W → W.cell? ⟨g, placeP key l + 1, none⟩ = some (.int .i64 (l.getD (placeP key l + 1) 0)) ∧ W.frozen? ⟨g, placeP key l + 1, none⟩ = false ∧ OwnI (W.setCell ⟨g, placeP key l + 1, none⟩ (.int .i64 n)) B (.slice (some ⟨g, 0, none⟩) l.length cap) L' ∧ Mv w (W.setCell ⟨g, placeP key l + 1, none⟩ (.int .i64 n)) (.slice (some ⟨g, 0, none⟩) l.length cap) (.slice (some ⟨g, 0, none⟩) l.length cap)) := fun W hb => by
      obtain ⟨g', cap', hv, h3, h4, h5, h6, h7, h8⟩ := (HO.out.below hb (Nat.le_refl _)).put _ h2 n
      simp only [Value.slice.injEq, Option.some.injEq, Addr.mk.injEq] at hv
      obtain ⟨⟨rfl, _⟩, _, rfl⟩ := hv
      exact ⟨h3, h4, by rw [HW.out]; exact h7, (Mv.ofBelow hb _).trans h8⟩
    clear hL' HW ho hp HH hh hle h1 HO hi
    generalize l.getD (placeP key l + 1) 0 = y at *
    generalize placeP key l = P at *
    have hPl : (P : Int) + 1 < (l.length : Int) := by omega
    clear h2
    go_enter Try.func73, Try.ntmps73
    go_wp2_with fail
    refine HPL.out.mono ?_
    rintro e W1 ⟨rfl, hb1⟩
    obtain ⟨c1, f1, o1, b1⟩ := HS.out _ hb1
    have HO1 := hide' o1
    have HB1 := hide' b1
    clear hb1 o1 b1
    go_wp2
    go_ret
    exact ⟨_, rfl, HO1.out, HB1.out⟩

set_option maxRecDepth 100000 in
set_option maxHeartbeats 1000000 in
theorem drop_any (v : Value) (l : List Int) (key least lo : Int) (B : Nat) (w : World) (ho : OwnI w B v l) (hi : ∀ x ∈ l, I64 x) (hp : Pairs least lo l) (hlim : l.length ≤ 1000000) :
    Calls Try.prog 71 #[v, .int .i64 key] w fun e w' => ∃ v', e = .returned v' ∧ OwnI w' B v' (withoutF key l) ∧ Mv w w' v v' := by
  have HPL : Hid (Calls Try.prog 77 #[v, .int .i64 key] w fun e w' => e = .returned (.tuple #[.int .i64 (placeP key l), .bool (hitP key l)]) ∧ Below w.heap.size w w') := placeH_any v l key least lo w (ho.rd hi) hp hlim
  have hle := (placeP_le key l (pairs_even hp)).1
  have HH := hide' (placeP_hit key least l lo hp).2
  have HO := hide' ho
  cases hh : hitP key l
  · rw [hh] at HPL
    have HW := hide' (withoutF_not key least l lo hp hh)
    rw [HW.out]
    clear HW ho hp HH hh hle hi
    generalize placeP key l = P at *
    go_enter Try.func71, Try.ntmps71
    go_wp2_with fail
    refine HPL.out.mono ?_
    rintro e W1 ⟨rfl, hb1⟩
    have HB1 := hide' hb1
    clear hb1
    go_wp2
    go_ret
    exact ⟨_, rfl, HO.out.below HB1.out (Nat.le_refl _), Mv.ofBelow HB1.out v⟩
  · rw [hh] at HPL
    have HW := hide' (withoutF_cut key least l lo hp hh)
    obtain ⟨h1, h2⟩ := HH.out hh
    have HD : Hid (∀ W J, OwnI W B v l → J = ((placeP key l + 2 : Nat) : Int) → Calls Try.prog 76 #[v, .int .i64 (placeP key l), .int .i64 J] W fun e w' => ∃ v', e = .returned v' ∧ OwnI w' B v' (l.take (placeP key l) ++ l.drop (placeP key l + 2)) ∧ Mv W w' v v') :=
      fun W J h3 h4 => deleteI_any v l B W h3 (placeP key l) (placeP key l + 2) (by omega) (by omega) _ _ rfl h4
    obtain ⟨L', hL'⟩ : ∃ L', L' = withoutF key l := ⟨_, rfl⟩
    rw [← hL']
    rw [← hL'] at HW
    have HWS := hide' HW.out.symm
    rw [HWS.out] at HD
    clear hL' HW HWS ho hp HH hh hle h1
    generalize placeP key l = P at *
    have hPl : (P : Int) + 1 < (l.length : Int) := by omega
    clear h2
    go_enter Try.func71, Try.ntmps71
    go_wp2_with fail
    refine HPL.out.mono ?_
    rintro e W1 ⟨rfl, hb1⟩
    have HB1 := hide' hb1
    clear hb1
    go_wp2_with fail
    refine (HD.out W1 _ (HO.out.below HB1.out (Nat.le_refl _)) (by omega)).mono ?_
    rintro e W2 ⟨v2, rfl, ho2, hb2⟩
    have HB2 := hide' ((Mv.ofBelow HB1.out v).trans hb2)
    have HO2 := hide' ho2
    clear hb2 ho2
    go_wp2
    go_ret
    exact ⟨_, rfl, HO2.out, HB2.out⟩

end Go.Proofs.Ytedfacbngefhnaa
