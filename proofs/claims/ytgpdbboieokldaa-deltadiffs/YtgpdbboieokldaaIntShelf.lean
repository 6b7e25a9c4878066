/- The library's slices.Grow and Concat over numbers, as the landed delta calls them; IndexFunc, ContainsFunc over numbers. -/
import Derived.Test.YtgpdbboieokldaaPack1
import Derived.Test.YtgpdbboieokldaaPack3
import Derived.Lib.AppendZerosOnto
import Derived.Lib.LazyBuf
namespace Go.Proofs.Ytgpdbboieokldaa
open Go.RowKit

/-- The slice value v reads as these lists of numbers. -/
def RdJ (w : World) (v : Value) (L : List (List Int)) : Prop :=
  ∃ ao cap, v = .slice ao L.length cap ∧ L.length ≤ cap ∧ cap ≤ maxLen ∧ (ao = none → cap = 0) ∧
    (L = [] ∨ ∃ b off, ao = some ⟨b, off, none⟩ ∧ ∀ j, j < L.length → ∃ x, w.cell? ⟨b, off + j, none⟩ = some x ∧ RdI w x (L.getD j []))

theorem OwnI.emptyS {w : World} {B : Nat} {X : Obj} {cur : Array Value} {N : Nat} (hN : w.heap.size = N) (hX : X = .cells cur 3 (0, 0)) (hB : B ≤ N) (cap : Nat) (hm : cap ≤ maxLen) (hs : cur.size = cap) : OwnI (w.alloc X) B (.slice (some ⟨N, 0, none⟩) 0 cap) [] := by
  subst hN hX
  have h := World.ownsRow_made (e := 3) (size := 1) (base := B) w cur cap hB hm (by omega)
  exact h

set_option maxRecDepth 100000 in
set_option maxHeartbeats 1000000 in
theorem grow_nilI (n : Nat) (w : World) (hn : n ≤ 1000000) :
    Calls Try.prog 91 #[.slice none 0 0, .int .i64 (n : Int)] w fun e w' => ∃ v', e = .returned v' ∧ OwnI w' w.heap.size v' [] ∧ Below w.heap.size w w' := by
  obtain ⟨i0, hi, hz0, hz1, hz2⟩ := info_parts info_i64
  by_cases h0 : n = 0
  · subst h0
    go_enter Try.func91, Try.ntmps91
    go_wp2
    go_ret
    exact ⟨_, rfl, OwnI.nil _ _, Below.refl _ _⟩
  · have hrz : ∀ ty, (Builtin.append_ #[22, 3] ty #[.slice none 0 0, .int .i64 (n : Int)]).run Try.prog w =
        .ok (.slice (some ⟨w.heap.size, 0, none⟩) n (grownCap w n 0 3)) (w.drew.alloc (.cells (#[] ++ Builtin.zeroCells #[.int .i64 0] n ++ Builtin.zeroCells #[.int .i64 0] (grownCap w n 0 3 - n)) 3)) := fun ty => by
      have h := Lib.run_append_grow_zeros (P := Try.prog) w 22 3 ty 3 i0 (.int .i64 0) .i64 .i64 Try.underlying22 Try.underlying3 hi hz0 none 0 0 [] (run_firstCells_none w.drew i0.size 0 0 0) n (by omega) (by omega) (by omega) (by omega) (by rw [hz2]; omega)
        (by rw [Nat.zero_add]; exact growslice_fits (by omega) (by rw [hz2]; omega))
      rw [Nat.zero_add] at h
      exact h
    have hGn : n ≤ grownCap w n 0 3 := grownCap_ge w _ _ _
    have hGm := grownCap_le_maxLen w n 0 3 (by unfold maxLen; omega)
    generalize grownCap w n 0 3 = G at *
    have hG63 : G ≤ 9223372036854775807 := by
      unfold maxLen at hGm
      omega
    have hZ : (#[] ++ Builtin.zeroCells #[Value.int .i64 0] n ++ Builtin.zeroCells #[Value.int .i64 0] (G - n)).size = G := by
      simp [Builtin.zeroCells]
      omega
    generalize (#[] ++ Builtin.zeroCells #[Value.int .i64 0] n ++ Builtin.zeroCells #[Value.int .i64 0] (G - n)) = Z at *
    have hpos : (0 : Int) < (n : Int) := by omega
    have HO : Hid (OwnI (w.drew.alloc (.cells Z 3)) w.heap.size (.slice (some ⟨w.heap.size, 0, none⟩) 0 G) []) := hide (OwnI.emptyS rfl rfl (Nat.le_refl _) G hGm hZ)
    have HB : Hid (Below w.heap.size w (w.drew.alloc (.cells Z 3))) := hide (((Below.refl _ _).drew).alloc (Nat.le_refl _) _)
    clear hZ hGm
    go_enter Try.func91, Try.ntmps91
    go_wp2_with (at_builtin; refine Lib.wpList_append_run _ rfl _ _ _ _ rfl _ _ rfl rfl _ _ (hrz _) ?_)
    all_goals (go_ret; exact ⟨_, rfl, HO.out, HB.out⟩)

theorem flat_snocI (L : List (List Int)) (k : Nat) (hk : k < L.length) : (L.take (k + 1)).flatten = (L.take k).flatten ++ L.getD k [] := by
  have e : L.take (k + 1) = L.take k ++ [L.getD k []] := by
    rw [List.take_add_one]
    simp [List.getD, hk]
  rw [e, List.flatten_append]
  simp

theorem flat_leI (L : List (List Int)) (k : Nat) : ((L.take k).flatten).length ≤ L.flatten.length := by
  have e : L.flatten = (L.take k).flatten ++ (L.drop k).flatten := by rw [← List.flatten_append, List.take_append_drop]
  rw [e, List.length_append]
  omega

/-- How many bytes the first lists have. -/
def flenI (L : List (List Int)) (k : Nat) : Nat := (L.take k).flatten.length

/-- The bytes of the first lists. -/
def flatI (L : List (List Int)) (k : Nat) : List Int := (L.take k).flatten

theorem flat_nextI (L : List (List Int)) (k : Nat) (hk : k < L.length) : flatI L (k + 1) = flatI L k ++ L.getD k [] := flat_snocI L k hk

theorem flen_nextI (L : List (List Int)) (k : Nat) (hk : k < L.length) : (flenI L (k + 1) : Int) = (flenI L k : Int) + ((L.getD k []).length : Int) := by
  unfold flenI
  rw [flat_snocI L k hk, List.length_append]
  omega

theorem flen_leI (L : List (List Int)) (k : Nat) : flenI L k ≤ L.flatten.length := flat_leI L k

theorem flat_lenI (L : List (List Int)) (k : Nat) : (flatI L k).length = flenI L k := rfl

theorem flat_allI (L : List (List Int)) (k : Nat) (hk : L.length ≤ k) : flatI L k = L.flatten := by
  unfold flatI
  rw [List.take_of_length_le hk]

set_option maxRecDepth 100000 in
set_option maxHeartbeats 1000000 in
theorem concat_anyI (v : Value) (L : List (List Int)) (w : World) (hr : RdJ w v L) (hlim : L.flatten.length ≤ 1000000) (hn : L.length ≤ 1000) :
    Calls Try.prog 59 #[v] w fun e w' => ∃ v', e = .returned v' ∧ OwnI w' w.heap.size v' L.flatten ∧ Below w.heap.size w w' := by
  have HG := hide (fun n W h => grow_nilI n W h)
  have HRL := hide hr
  have HLE : Hid (∀ k, flenI L k ≤ 1000000) := fun k => Nat.le_trans (flen_leI L k) hlim
  have HFN := hide (flen_nextI L)
  have HFS := hide (flat_nextI L)
  have HFA := hide (flat_allI L)
  have HFL := hide (flat_lenI L)
  obtain ⟨F, hF⟩ : ∃ F, F = L.flatten := ⟨_, rfl⟩
  rw [← hF]
  rw [← hF] at HFA
  obtain ⟨ao, cap, rfl, -, -, -, hao⟩ := hr
  have HAO := hide hao
  clear hao hF hlim
  go_enter Try.func59, Try.ntmps59
  go_wp2
  go_loopw [3, 11] (fun vs vi wr => ∃ (k : Nat), vs = .int .i64 (flenI L k : Int) ∧ vi = .int .i64 (k : Int) ∧ k ≤ L.length ∧ wr = w) (fun _ vi _ => L.length - (intOf vi).toNat)
  case atStart => exact ⟨0, rfl, rfl, Nat.zero_le _, rfl⟩
  case round =>
    obtain ⟨k, rfl, rfl, hk, hwr⟩ := hrel
    have hwr2 := hwr.symm
    subst hwr2
    clear hwr
    by_cases hlt : k < L.length
    · rcases HAO.out with h0 | ⟨c, off, rfl, hc⟩
      · rw [h0] at hlt; simp at hlt
      obtain ⟨x, hx, hrx⟩ := hc k hlt
      have h1 := HLE.out (k + 1)
      have h2 := HFN.out k hlt
      obtain ⟨ax, cx, rfl, -⟩ := hrx
      have h3 : ¬ ((flenI L k : Int) + ((L.getD k []).length : Int) < 0) := by omega
      have h4 : (flenI L k : Int) + ((L.getD k []).length : Int) ≤ 1000000 := by omega
      have H2 := hide h2
      clear hc h1 h2
      generalize flenI L k = A at *
      generalize (L.getD k []).length = D at *
      go_wp2
      go_roundw
      case rel => exact ⟨k + 1, by rw [H2.out], by go_num, by omega, trivial⟩
      case measure => simp [intOf]; omega
    · have HGG := hide (HG.out (flenI L k) w (HLE.out k))
      generalize flenI L k = A at *
      go_wp2_with fail
      refine HGG.out.mono ?_
      rintro e W1 ⟨v1, rfl, ho1, hb1⟩
      have HO1 := hide ho1
      have HB1 := hide hb1
      clear ho1 hb1 hk hlt
      go_wp2
      go_loopw [6, 27] (fun vo vi w2 => ∃ (j : Nat), vi = .int .i64 (j : Int) ∧ j ≤ L.length ∧ Hid (OwnI w2 w.heap.size vo (flatI L j)) ∧ Hid (Below w.heap.size w w2)) (fun _ vi _ => L.length - (intOf vi).toNat)
      case atStart => exact ⟨0, rfl, Nat.zero_le _, HO1, HB1⟩
      case round =>
        clear HO1 HB1
        obtain ⟨j, rfl, hj, HO2, HB2⟩ := hrel
        by_cases hjl : j < L.length
        · rcases HAO.out with h0 | ⟨c, off, rfl, hc⟩
          · rw [h0] at hjl; simp at hjl
          obtain ⟨x, hx0, hrx⟩ := hc j hjl
          have hx := (HB2.out.cell (World.block_lt_of_cell? _ _ hx0)).trans hx0
          have HRX := hide (hrx.below HB2.out (Nat.le_refl _))
          obtain ⟨ax, cx, rfl, -⟩ := hrx
          have HLL : Hid ((flatI L j).length + (L.getD j []).length ≤ 1000000) := hide (by
            have h1 := HLE.out (j + 1)
            have h2 := HFN.out j hjl
            rw [HFL.out]
            omega)
          have HSZ := hide HB2.out.size
          have HN := hide (HFS.out j hjl)
          clear hc hx0
          generalize L.getD j [] = D at *
          generalize flatI L j = P at *
          go_wp2_with (at_builtin; refine wpList_append_ints _ rfl _ _ rfl w.heap.size _ P rfl HO2.out _ D rfl HRX.out HLL.out HSZ.out ?_)
          intro v3 W3 ho3 hb3
          rw [← HN.out] at ho3
          have HO3 := hide ho3
          have HB3 := hide (HB2.out.trans hb3)
          clear ho3 hb3
          go_wp2
          go_roundw
          case rel => exact ⟨j + 1, by go_num, by omega, HO3, HB3⟩
          case measure => simp [intOf]; omega
        · have HE := hide (HFA.out j (by omega))
          rw [HE.out] at HO2
          go_wp2
          go_ret
          exact ⟨_, rfl, HO2.out, HB2.out⟩

/-- A list of slices, just built. -/
theorem RdJ.built (W : World) (N : Nat) (hN : N = W.heap.size) (vs : Array Value) (L : List (List Int)) (hl : L.length ≤ 1000) (h : ∀ j, j < L.length → ∃ x, vs[j]? = some x ∧ RdI W x (L.getD j [])) :
    RdJ (W.alloc (.cells vs 22)) (.slice (some ⟨N, 0, none⟩) L.length L.length) L := by
  subst hN
  refine ⟨some ⟨W.heap.size, 0, none⟩, L.length, rfl, Nat.le_refl _, by unfold maxLen; omega, fun e => (by cases e), .inr ⟨W.heap.size, 0, rfl, fun j hj => ?_⟩⟩
  obtain ⟨x, hx, hr⟩ := h j hj
  refine ⟨x, ?_, hr.below ((Below.refl _ _).alloc (Nat.le_refl _) _) (Nat.le_refl _)⟩
  rw [Nat.zero_add, cell_of_row _ W.heap.size j vs 22 (0, 0) (heap_alloc_new W _)]
  exact hx

theorem concat3I (W : World) (N : Nat) (hN : N = W.heap.size) (v0 v1 v2 : Value) (l0 l1 l2 : List Int) (h0 : RdI W v0 l0) (h1 : RdI W v1 l1) (h2 : RdI W v2 l2) (hlim : l0.length + l1.length + l2.length ≤ 1000000) :
    Calls Try.prog 59 #[.slice (some ⟨N, 0, none⟩) 3 3] (W.alloc (.cells #[v0, v1, v2] 22)) fun e w' => ∃ v', e = .returned v' ∧ OwnI w' W.heap.size v' (l0 ++ (l1 ++ l2)) ∧ Below W.heap.size W w' := by
  have hr := RdJ.built W N hN #[v0, v1, v2] [l0, l1, l2] (by simp) (fun j hj => by
    match j, hj with
    | 0, _ => exact ⟨v0, rfl, h0⟩
    | 1, _ => exact ⟨v1, rfl, h1⟩
    | 2, _ => exact ⟨v2, rfl, h2⟩)
  have ef : [l0, l1, l2].flatten = l0 ++ (l1 ++ l2) := by simp
  refine (concat_anyI _ _ _ hr (by rw [ef]; simp only [List.length_append]; omega) (by simp)).mono ?_
  rintro e w' ⟨v', rfl, ho, hb⟩
  rw [ef] at ho
  exact ⟨v', rfl, ho.mono (by simp), ((Below.refl _ _).alloc (Nat.le_refl _) _).trans (hb.mono (by simp))⟩

/-- Where the first number stands that p holds of, or -1. -/
def FoundI (p : Int → Bool) (l : List Int) (k : Int) : Prop := (k = -1 ∧ ∀ j, j < l.length → p (l.getD j 0) = false) ∨ ∃ i : Nat, k = (i : Int) ∧ i < l.length ∧ p (l.getD i 0) = true

theorem foundI_any {p : Int → Bool} {l : List Int} {k : Int} (h : FoundI p l k) : decide (0 ≤ k) = l.any p := by
  rcases h with ⟨rfl, h⟩ | ⟨i, rfl, hi, h2⟩
  · have : l.any p = false := by
      rw [List.any_eq_false]
      intro x hx
      obtain ⟨j, hj, rfl⟩ := List.getElem_of_mem hx
      have := h j hj
      simpa [List.getD, hj] using this
    rw [this]
    decide
  · have : l.any p = true := by
      rw [List.any_eq_true]
      exact ⟨l[i], List.getElem_mem hi, by simpa [List.getD, hi] using h2⟩
    rw [this]
    exact decide_eq_true (by omega)

set_option maxRecDepth 100000 in
set_option maxHeartbeats 2000000 in
theorem indexFuncI_any (g : Nat) (p : Int → Bool) (v : Value) (l : List Int) (w : World) (hr : RdI w v l)
    (eg : ∀ args W, (callFunc g args).run Try.prog W = .ok (.enter g args) W)
    (hp : ∀ W n, Calls Try.prog g #[.int .i64 n] W fun x w' => x = .returned (.bool (p n)) ∧ Below W.heap.size W w') :
    Calls Try.prog 92 #[v, .func (.func g) #[] #[]] w fun x w' => ∃ k : Int, x = .returned (.int .i64 k) ∧ FoundI p l k ∧ Below w.heap.size w w' := by
  have HP := hide hp
  obtain ⟨va, vc, rfl, hlc, hcm, -, -, hao⟩ := hr
  have HAO := hide hao
  have hml : (l.length : Int) ≤ 9223372036854775807 := by unfold maxLen at hcm; omega
  clear hp hlc hcm hao
  go_enter Try.func92, Try.ntmps92
  go_wp2
  go_loopw [8] (fun vi wr => ∃ q : Nat, vi = .int .i64 (q : Int) ∧ q ≤ l.length ∧ Hid (∀ j, j < q → p (l.getD j 0) = false) ∧ Hid (Below w.heap.size w wr)) (fun vi _ => l.length - (intOf vi).toNat)
  case atStart => exact ⟨0, rfl, Nat.zero_le _, hide (fun j hj => absurd hj (Nat.not_lt_zero _)), Below.refl _ _⟩
  case round =>
    obtain ⟨q, rfl, hq, hN, hB⟩ := hrel
    by_cases hlt : q < l.length
    case neg =>
      obtain rfl : q = l.length := by omega
      go_wp2
      go_ret
      exact ⟨-1, rfl, .inl ⟨rfl, hN.out⟩, hB.out⟩
    have hqi : (q : Int) < (l.length : Int) := by omega
    rcases HAO.out with h0 | ⟨b, off, rfl, hc⟩
    · rw [h0] at hlt; simp at hlt
    have c0 := (hB.out.cell (World.block_lt_of_cell? _ _ (hc q hlt))).trans (hc q hlt)
    have HC := hide (HP.out wr (l.getD q 0))
    have HX : Hid (∀ j, j < q + 1 → j = q ∨ j < q) := hide (fun j hj => by omega)
    obtain ⟨e, he⟩ : ∃ e, e = l.getD q 0 := ⟨_, rfl⟩
    rw [← he] at HC c0
    have HE := hide he
    obtain ⟨pe, hpe⟩ : ∃ pe, pe = p e := ⟨_, rfl⟩
    rw [← hpe] at HC
    have HPE := hide hpe
    clear he hc HP HAO hpe
    go_wp2_with fail
    refine HC.out.mono ?_
    rintro x W1 ⟨rfl, hb1⟩
    have HB1 := hide (hB.out.trans (hb1.mono hB.out.size))
    clear hb1 HC
    cases pe with
    | true =>
      go_wp2
      go_ret
      exact ⟨(q : Int), rfl, .inr ⟨q, rfl, hlt, by rw [← HE.out]; exact HPE.out.symm⟩, HB1.out⟩
    | false =>
      go_wp2
      go_roundw
      case rel => exact ⟨q + 1, by go_num, by omega, hide (fun j hj => by
        rcases HX.out j hj with h | h
        · rw [h, ← HE.out]; exact HPE.out.symm
        · exact hN.out j h), HB1⟩
      case measure => simp [intOf]; omega

set_option maxRecDepth 100000 in
set_option maxHeartbeats 2000000 in
theorem containsFuncI_any (g : Nat) (p : Int → Bool) (v : Value) (l : List Int) (w : World) (hr : RdI w v l)
    (eg : ∀ args W, (callFunc g args).run Try.prog W = .ok (.enter g args) W)
    (hp : ∀ W n, Calls Try.prog g #[.int .i64 n] W fun x w' => x = .returned (.bool (p n)) ∧ Below W.heap.size W w') :
    Calls Try.prog 62 #[v, .func (.func g) #[] #[]] w fun x w' => x = .returned (.bool (l.any p)) ∧ Below w.heap.size w w' := by
  have HIX := hide (indexFuncI_any g p v l w hr eg hp)
  obtain ⟨va, vc, hv⟩ : ∃ ao cap, v = .slice ao l.length cap := by obtain ⟨a, c, h, -⟩ := hr; exact ⟨a, c, h⟩
  subst hv
  have HF := hide (fun k h => foundI_any (p := p) (l := l) (k := k) h)
  generalize l.any p = AN at *
  clear hr hp
  go_enter Try.func62, Try.ntmps62
  go_wp2_with fail
  refine HIX.out.mono ?_
  rintro x W1 ⟨k, rfl, hk, hb1⟩
  have HK := hide (HF.out k hk)
  have HB1 := hide hb1
  clear hk hb1 HIX
  go_wp2
  go_ret
  rw [← HK.out]
  exact ⟨rfl, HB1.out⟩

end Go.Proofs.Ytgpdbboieokldaa
