import Derived.Test.YtgpdbboieokldaaGreatPack1
import Derived.Test.YtgpdbboieokldaaGreatPack3
/- Contracts of objs: within and what it answers, cut, full. -/
namespace Go.Proofs.YtgpdbboieokldaaGreat
open Go.RowKit

set_option maxRecDepth 100000 in
/-- What lies from lo to hi. -/
theorem is_any (n lo hi : Int) (a b : Nat) (w : World) (ha : w.cell? ⟨a, 0, none⟩ = some (.int .i64 lo)) (hb : w.cell? ⟨b, 0, none⟩ = some (.int .i64 hi)) :
    Calls Tryz.prog 104 #[.int .i64 n, .pointer (some ⟨a, 0, none⟩), .pointer (some ⟨b, 0, none⟩)] w fun e w' => e = .returned (.bool (decide (lo ≤ n ∧ n ≤ hi))) ∧ w' = w := by
  have HD : Hid ((decide (lo ≤ n) && decide (n ≤ hi)) = decide (lo ≤ n ∧ n ≤ hi)) := (Bool.decide_and _ _).symm
  have HT : Hid (lo ≤ n → decide (n ≤ hi) = decide (lo ≤ n ∧ n ≤ hi)) := fun h => by rw [← HD.out, decide_eq_true h, Bool.true_and]
  by_cases h1 : lo ≤ n
  · go_enter Tryz.func104, Tryz.ntmps104
    go_wp2
    go_ret
    exact ⟨ret_b (HT.out h1), rfl⟩
  · go_enter Tryz.func104, Tryz.ntmps104
    go_wp2
    go_ret
    exact ⟨ret_b (by rw [decide_eq_false (Int.not_le.2 h1), Bool.false_and]), rfl⟩

set_option maxRecDepth 100000 in
theorem within_any (lo hi : Int) (w : World) :
    Calls Tryz.prog 92 #[.int .i64 lo, .int .i64 hi] w fun e w' => ∃ a b, e = .returned (.func (.func 104) #[] #[.pointer (some ⟨a, 0, none⟩), .pointer (some ⟨b, 0, none⟩)]) ∧ w'.cell? ⟨a, 0, none⟩ = some (.int .i64 lo) ∧ w'.cell? ⟨b, 0, none⟩ = some (.int .i64 hi) ∧ Below w.heap.size w w' := by
  have hmf : ∀ (fn : Fn) (first cap : Array Value) (w : World), (Instr.makeFunc fn first cap).run Tryz.prog w = .ok (.func fn first cap) w := fun _ _ _ _ => rfl
  have HB : Hid (∀ x y, Below w.heap.size w ((w.alloc x).alloc y)) := fun x y => ((Below.refl _ _).alloc (Nat.le_refl _) x).alloc (by simp) y
  go_enter Tryz.func92, Tryz.ntmps92
  go_wp2
  go_ret
  refine ⟨_, _, rfl, ?_, ?_, HB.out _ _⟩
  · rw [World.cell?_alloc_past _ _ _ (by simp), World.cell?_alloc_at _ _ _ _ rfl]; rfl
  · rw [World.cell?_alloc_at _ _ _ _ (by simp)]; rfl

theorem cut_maxmin (n : Int) : max (-1099511627776) (min n 1099511627776) = cutZ n := by
  unfold cutZ
  split
  · omega
  · split <;> omega

end Go.Proofs.YtgpdbboieokldaaGreat

/- Contracts of objs: mayLine, mayPairs. -/
namespace Go.Proofs.YtgpdbboieokldaaGreat
open Go.RowKit

set_option maxRecDepth 100000 in
set_option maxHeartbeats 1000000 in
theorem mayLine_any (v : Value) (l : List Int) (a b : Nat) (w : World) (hr : RdI w v l) (ha : w.cell? ⟨a, 0, none⟩ = some (.int .i64 (-1099511627776))) (hb : w.cell? ⟨b, 0, none⟩ = some (.int .i64 1099511627776)) :
    Calls Tryz.prog 105 #[v, .func (.func 104) #[] #[.pointer (some ⟨a, 0, none⟩), .pointer (some ⟨b, 0, none⟩)]] w fun e w' => e = .returned (.bool (decide (l.length ≤ 64 ∧ InBounds l))) ∧ w' = w := by
  have HI := hide' (fun n => is_any n _ _ a b w ha hb)
  obtain ⟨ao, cap, rfl, -, -, -, -, hao⟩ := hr
  have HAO := hide' hao
  clear hao ha hb
  obtain ⟨R, hR⟩ : ∃ R, R = decide (l.length ≤ 64 ∧ InBounds l) := ⟨_, rfl⟩
  rw [← hR]
  have HR := hide' hR
  clear hR
  by_cases h64 : l.length ≤ 64
  · have hq : ¬ (64 < (l.length : Int)) := by omega
    go_enter Tryz.func105, Tryz.ntmps105
    go_wp2
    go_loop [12] (fun i => ∃ k : Nat, i = .int .i64 k ∧ k ≤ l.length ∧ Hid (∀ j, j < k → -1099511627776 ≤ l.getD j 0 ∧ l.getD j 0 ≤ 1099511627776)) (fun i => l.length - (intOf i).toNat)
    case atStart => exact ⟨0, rfl, Nat.zero_le _, fun j hj => by omega⟩
    case round =>
      obtain ⟨k, rfl, hk, hall⟩ := hrel
      by_cases hlt : k < l.length
      · rcases HAO.out with h0 | ⟨g, off, rfl, hc⟩
        · rw [h0] at hlt; simp at hlt
        have hck := hc k hlt
        clear hc
        obtain ⟨y, hy⟩ : ∃ y, y = l.getD k 0 := ⟨_, rfl⟩
        rw [← hy] at hck
        have HY := hide' hy
        clear hy
        by_cases hin : -1099511627776 ≤ y ∧ y ≤ 1099511627776
        · have HD := hide' (decide_eq_true hin)
          have HN := hide' hin
          clear hin
          go_wp2_with (first | (go_at_call 104; refine (HI.out _).mono ?_; rintro e w2 ⟨rfl, rfl⟩; rw [HD.out]))
          go_round
          case rel =>
            refine ⟨k + 1, by go_num, by omega, fun j hj => ?_⟩
            by_cases e : j = k
            · rw [e, ← HY.out]; exact HN.out
            · exact hall.out j (by omega)
          case measure => simp [intOf]; omega
        · have HD := hide' (decide_eq_false hin)
          have HN := hide' hin
          clear hin
          go_wp2_with (first | (go_at_call 104; refine (HI.out _).mono ?_; rintro e w2 ⟨rfl, rfl⟩; rw [HD.out]))
          go_ret
          refine ⟨ret_b (HR.out.trans (decide_eq_false fun h => HN.out ?_)).symm, rfl⟩
          rw [HY.out]
          exact h.2 k hlt
      · go_wp2
        go_ret
        exact ⟨ret_b (HR.out.trans (decide_eq_true ⟨h64, fun j hj => hall.out j (by omega)⟩)).symm, rfl⟩
  · have hq : 64 < (l.length : Int) := by omega
    have HD : Hid (decide (l.length ≤ 64 ∧ InBounds l) = false) := decide_eq_false (fun h => h64 h.1)
    go_enter Tryz.func105, Tryz.ntmps105
    go_wp2
    go_ret
    exact ⟨ret_b (HR.out.trans HD.out).symm, rfl⟩

/-- What the next key may be at the least. -/
def leastAt (l : List Int) (k : Nat) : Int := if k = 0 then 0 else l.getD (k - 2) 0 + 1

theorem pairAt_least {lo : Int} {l : List Int} {k : Nat} (hk : k % 2 = 0) (hall : ∀ j, j < k → j % 2 = 0 → PairAt lo l j) : PairAt lo l k ↔ (leastAt l k ≤ l.getD k 0 ∧ l.getD k 0 ≤ 255) ∧ lo ≤ l.getD (k + 1) 0 ∧ l.getD (k + 1) 0 ≤ 1099511627776 := by
  unfold PairAt leastAt
  by_cases h0 : k = 0
  · subst h0
    simp
    omega
  · rw [if_neg h0]
    have hp := (hall (k - 2) (by omega) (by omega)).1
    constructor
    · rintro ⟨h1, h2, h3, h4, h5⟩
      exact ⟨⟨by have := h3 (by omega); omega, h2⟩, h4, h5⟩
    · rintro ⟨⟨h1, h2⟩, h4, h5⟩
      exact ⟨by omega, h2, fun _ => by omega, h4, h5⟩

set_option maxRecDepth 100000 in
set_option maxHeartbeats 1000000 in
theorem mayPairs_any (v : Value) (l : List Int) (lo : Int) (a b : Nat) (w : World) (hr : RdI w v l) (ha : w.cell? ⟨a, 0, none⟩ = some (.int .i64 lo)) (hb : w.cell? ⟨b, 0, none⟩ = some (.int .i64 1099511627776)) :
    Calls Tryz.prog 106 #[v, .func (.func 104) #[] #[.pointer (some ⟨a, 0, none⟩), .pointer (some ⟨b, 0, none⟩)]] w fun e w' => e = .returned (.bool (decide (PairsOk lo l))) ∧ Below w.heap.size w w' := by
  have HI : Hid (∀ n W, Below w.heap.size w W → Calls Tryz.prog 104 #[.int .i64 n, .pointer (some ⟨a, 0, none⟩), .pointer (some ⟨b, 0, none⟩)] W fun e w' => e = .returned (.bool (decide (lo ≤ n ∧ n ≤ 1099511627776))) ∧ w' = W) := fun n W h =>
    is_any n _ _ a b W ((h.cell (World.block_lt_of_cell? w ⟨a, 0, none⟩ ha)).trans ha) ((h.cell (World.block_lt_of_cell? w ⟨b, 0, none⟩ hb)).trans hb)
  have HS := hide' (fun n l2 h2 a2 b2 W p1 p2 => is_any n l2 h2 a2 b2 W p1 p2)
  have HW := hide' (fun p q W => within_any p q W)
  obtain ⟨ao, cap, rfl, -, -, -, -, hao⟩ := hr
  have HAO := hide' hao
  clear hao ha hb
  obtain ⟨R, hR⟩ : ∃ R, R = decide (PairsOk lo l) := ⟨_, rfl⟩
  rw [← hR]
  have HR := hide' hR
  clear hR
  by_cases he : l.length % 2 = 0
  · by_cases h128 : l.length ≤ 128
    · have hq1 : (((l.length : Int).tmod 2) != 0) = false := by rw [bne_eq_false_iff_eq, Int.tmod_eq_emod_of_nonneg (by omega)]; omega
      have hq : ¬ (128 < (l.length : Int)) := by omega
      go_enter Tryz.func106, Tryz.ntmps106
      go_wp2
      go_loopw [5, 6] (fun y i wr => ∃ k : Nat, y = .int .i64 (leastAt l k) ∧ i = .int .i64 k ∧ k ≤ l.length ∧ k % 2 = 0 ∧ Hid (∀ j, j < k → j % 2 = 0 → PairAt lo l j) ∧ Hid (Below w.heap.size w wr)) (fun _ i _ => l.length - (intOf i).toNat)
      case atStart => exact ⟨0, rfl, rfl, Nat.zero_le _, rfl, fun j hj => by omega, Below.refl _ _⟩
      case round =>
        obtain ⟨k, rfl, rfl, hk, hk2, hall, hbel⟩ := hrel
        by_cases hlt : k < l.length
        · rcases HAO.out with h0 | ⟨g, off, rfl, hc⟩
          · rw [h0] at hlt; simp at hlt
          have hlt1 : k + 1 < l.length := by omega
          have HC0 : Hid (∀ W, Below w.heap.size w W → W.cell? ⟨g, off + k, none⟩ = some (.int .i64 (l.getD k 0))) := fun W h => (h.cell (World.block_lt_of_cell? w ⟨g, off + k, none⟩ (hc k hlt))).trans (hc k hlt)
          have HC1 : Hid (∀ W, Below w.heap.size w W → W.cell? ⟨g, off + (k + 1), none⟩ = some (.int .i64 (l.getD (k + 1) 0))) := fun W h => (h.cell (World.block_lt_of_cell? w ⟨g, off + (k + 1), none⟩ (hc (k + 1) hlt1))).trans (hc (k + 1) hlt1)
          clear hc
          have HP := hide' (pairAt_least (lo := lo) hk2 hall.out)
          have HLS : Hid (leastAt l (k + 2) = l.getD k 0 + 1) := by
            unfold leastAt
            rw [if_neg (by omega)]
            exact rfl
          generalize leastAt l k = ls at *
          obtain ⟨y, hy⟩ : ∃ y, y = l.getD k 0 := ⟨_, rfl⟩
          obtain ⟨z, hz⟩ : ∃ z, z = l.getD (k + 1) 0 := ⟨_, rfl⟩
          rw [← hy] at HC0 HP HLS
          rw [← hz] at HC1 HP
          have HEY := hide' hy
          clear hy hz
          by_cases hy : ls ≤ y ∧ y ≤ 255
          · have HD1 := hide' (decide_eq_true hy)
            have HY := hide' hy
            by_cases hz : lo ≤ z ∧ z ≤ 1099511627776
            · have HD2 := hide' (decide_eq_true hz)
              have HZ := hide' hz
              have hy255 := hy.2
              have hy0 : 0 ≤ y := by rw [HEY.out]; exact (HP.out.2 ⟨HY.out, HZ.out⟩).1
              clear hy hz
              go_wp2_with fail
              refine (HW.out _ _ _).mono ?_
              rintro e W1 ⟨a2, b2, rfl, hc1, hc2, hb1⟩
              have HB1 := hide' (hbel.out.trans (hb1.mono hbel.out.size))
              have hg0 := HC0.out _ HB1.out
              have hg1 := HC1.out _ HB1.out
              clear hb1
              go_wp2_with fail
              refine (HS.out _ _ _ _ _ _ hc1 hc2).mono ?_
              rintro e W2 ⟨rfl, rfl⟩
              rw [HD1.out]
              go_wp2_with fail
              refine (HI.out _ _ HB1.out).mono ?_
              rintro e W3 ⟨rfl, rfl⟩
              rw [HD2.out]
              go_wp2
              go_roundw
              case rel =>
                refine ⟨k + 2, by rw [HLS.out], by go_num, by omega, by omega, fun j hj hj2 => ?_, HB1⟩
                by_cases e : j = k
                · rw [e]; exact HP.out.2 ⟨HY.out, HZ.out⟩
                · exact hall.out j (by omega) hj2
              case measure => simp [intOf]; omega
            · have HD2 := hide' (decide_eq_false hz)
              have HZ := hide' hz
              clear hy hz
              go_wp2_with fail
              refine (HW.out _ _ _).mono ?_
              rintro e W1 ⟨a2, b2, rfl, hc1, hc2, hb1⟩
              have HB1 := hide' (hbel.out.trans (hb1.mono hbel.out.size))
              have hg0 := HC0.out _ HB1.out
              have hg1 := HC1.out _ HB1.out
              clear hb1
              go_wp2_with fail
              refine (HS.out _ _ _ _ _ _ hc1 hc2).mono ?_
              rintro e W2 ⟨rfl, rfl⟩
              rw [HD1.out]
              go_wp2_with fail
              refine (HI.out _ _ HB1.out).mono ?_
              rintro e W3 ⟨rfl, rfl⟩
              rw [HD2.out]
              go_wp2
              go_ret
              exact ⟨ret_b (HR.out.trans (decide_eq_false fun h => HZ.out (HP.out.1 (h.2.2 k hlt hk2)).2)).symm, HB1.out⟩
          · have HD1 := hide' (decide_eq_false hy)
            have HY := hide' hy
            clear hy
            go_wp2_with fail
            refine (HW.out _ _ _).mono ?_
            rintro e W1 ⟨a2, b2, rfl, hc1, hc2, hb1⟩
            have HB1 := hide' (hbel.out.trans (hb1.mono hbel.out.size))
            have hg0 := HC0.out _ HB1.out
            have hg1 := HC1.out _ HB1.out
            clear hb1
            go_wp2_with fail
            refine (HS.out _ _ _ _ _ _ hc1 hc2).mono ?_
            rintro e W2 ⟨rfl, rfl⟩
            rw [HD1.out]
            go_wp2
            go_ret
            exact ⟨ret_b (HR.out.trans (decide_eq_false fun h => HY.out (HP.out.1 (h.2.2 k hlt hk2)).1)).symm, HB1.out⟩
        · go_wp2
          go_ret
          exact ⟨ret_b (HR.out.trans (decide_eq_true ⟨he, h128, fun j hj hj2 => hall.out j (by omega) hj2⟩)).symm, hbel.out⟩
    · have hq1 : (((l.length : Int).tmod 2) != 0) = false := by rw [bne_eq_false_iff_eq, Int.tmod_eq_emod_of_nonneg (by omega)]; omega
      have hq : 128 < (l.length : Int) := by omega
      have HD : Hid (decide (PairsOk lo l) = false) := decide_eq_false (fun h => h128 h.2.1)
      go_enter Tryz.func106, Tryz.ntmps106
      go_wp2
      go_ret
      exact ⟨ret_b (HR.out.trans HD.out).symm, Below.refl _ _⟩
  · have hq1 : (((l.length : Int).tmod 2) != 0) = true := by rw [bne_iff_ne, Int.tmod_eq_emod_of_nonneg (by omega)]; omega
    have HD : Hid (decide (PairsOk lo l) = false) := decide_eq_false (fun h => he h.1)
    go_enter Tryz.func106, Tryz.ntmps106
    go_wp2
    go_ret
    exact ⟨ret_b (HR.out.trans HD.out).symm, Below.refl _ _⟩

end Go.Proofs.YtgpdbboieokldaaGreat

/- Contracts of objs: mayNumbers, May. -/
namespace Go.Proofs.YtgpdbboieokldaaGreat
open Go.RowKit

theorem nums_one {kind : Int} (hk : kind = 0 ∨ kind = 1) (l : List Int) : (0 ≤ kind ∧ kind < 6 ∧ NumsOk kind l) ↔ l.length = 1 ∧ -1099511627776 ≤ l.getD 0 0 ∧ l.getD 0 0 ≤ 1099511627776 := by
  rw [numsOk_list (by omega) (by omega)]
  constructor
  · rintro ⟨_, _, _, h1, h2⟩
    exact ⟨h1 (by omega), h2 0 (by have := h1 (by omega); omega)⟩
  · rintro ⟨h1, h2⟩
    refine ⟨by omega, by omega, by omega, fun _ => h1, fun j hj => ?_⟩
    have e : j = 0 := by omega
    rw [e]
    exact h2

theorem nums_line {kind : Int} (hk : kind = 2 ∨ kind = 3) (l : List Int) : (0 ≤ kind ∧ kind < 6 ∧ NumsOk kind l) ↔ l.length ≤ 64 ∧ InBounds l := by
  rw [numsOk_list (by omega) (by omega)]
  constructor
  · rintro ⟨_, _, h1, _, h2⟩
    exact ⟨h1, h2⟩
  · rintro ⟨h1, h2⟩
    exact ⟨by omega, by omega, h1, fun h => by omega, h2⟩

theorem nums_store (l : List Int) : (0 ≤ (4 : Int) ∧ (4 : Int) < 6 ∧ NumsOk 4 l) ↔ PairsOk (-1099511627776) l := by
  unfold NumsOk
  rw [if_pos rfl]
  exact ⟨fun h => h.2.2, fun h => ⟨by decide, by decide, h⟩⟩

theorem nums_ledger (l : List Int) : (0 ≤ (5 : Int) ∧ (5 : Int) < 6 ∧ NumsOk 5 l) ↔ PairsOk 0 l := by
  unfold NumsOk
  rw [if_neg (by decide), if_pos rfl]
  exact ⟨fun h => h.2.2, fun h => ⟨by decide, by decide, h⟩⟩

set_option maxRecDepth 100000 in
set_option maxHeartbeats 1000000 in
theorem mayNumbers_any (kind : Int) (v : Value) (l : List Int) (w : World) (hr : RdI w v l) :
    Calls Tryz.prog 93 #[.int .i64 kind, v] w fun e w' => e = .returned (.bool (decide (0 ≤ kind ∧ kind < 6 ∧ NumsOk kind l))) ∧ Below w.heap.size w w' := by
  have HW := hide' (fun p q W => within_any p q W)
  have HRD : Hid (∀ W, Below w.heap.size w W → RdI W v l) := fun W h => hr.below h (Nat.le_refl _)
  obtain ⟨R, hR⟩ : ∃ R, R = decide (0 ≤ kind ∧ kind < 6 ∧ NumsOk kind l) := ⟨_, rfl⟩
  rw [← hR]
  have HR := hide' hR
  clear hR
  by_cases h01 : kind = 0 ∨ kind = 1
  · have HN := hide' (nums_one h01 l)
    have hx : ((kind == 0) = true) ∨ ((kind == 0) = false ∧ (kind == 1) = true) := by
      rcases h01 with rfl | rfl
      · exact .inl rfl
      · exact .inr ⟨rfl, rfl⟩
    have HS := hide' (fun n l2 h2 a2 b2 W p1 p2 => is_any n l2 h2 a2 b2 W p1 p2)
    obtain ⟨ao, cap, rfl, -, -, -, -, hao⟩ := hr
    have HAO := hide' hao
    clear hao h01 HRD
    by_cases hl : l.length = 1
    · rcases HAO.out with h0 | ⟨g, off, rfl, hc⟩
      · rw [h0] at hl; simp at hl
      have HC0 : Hid (∀ W, Below w.heap.size w W → W.cell? ⟨g, off, none⟩ = some (.int .i64 (l.getD 0 0))) := fun W h => (h.cell (World.block_lt_of_cell? w ⟨g, off, none⟩ (hc 0 (by omega)))).trans (hc 0 (by omega))
      clear hc HAO
      have HL := hide' hl
      rw [hl]
      clear hl
      obtain ⟨y, hy⟩ : ∃ y, y = l.getD 0 0 := ⟨_, rfl⟩
      rw [← hy] at HC0 HN
      clear hy
      rcases hx with hx | ⟨hx, hx'⟩
      all_goals
        go_enter Tryz.func93, Tryz.ntmps93
        go_wp2_with fail
        refine (HW.out _ _ _).mono ?_
        rintro e W1 ⟨a2, b2, rfl, hc1, hc2, hb1⟩
        have HB1 := hide' hb1
        have hg0 := HC0.out _ hb1
        clear hb1
        go_wp2_with fail
        refine (HS.out _ _ _ _ _ _ hc1 hc2).mono ?_
        rintro e W2 ⟨rfl, rfl⟩
        go_wp2
        go_ret
        refine ⟨ret_b ?_, HB1.out⟩
        rw [HR.out, ← Bool.decide_and]
        exact decide_eq_decide.2 ⟨fun h => HN.out.2 ⟨HL.out, h⟩, fun h => (HN.out.1 h).2⟩
    · have hq : ((l.length : Int) == 1) = false := beq_eq_false_iff_ne.2 (by omega)
      have HD : Hid (decide (0 ≤ kind ∧ kind < 6 ∧ NumsOk kind l) = false) := decide_eq_false (fun h => hl (HN.out.1 h).1)
      clear hl
      rcases hx with hx | ⟨hx, hx'⟩
      all_goals
        go_enter Tryz.func93, Tryz.ntmps93
        go_wp2_with fail
        refine (HW.out _ _ _).mono ?_
        rintro e W1 ⟨a2, b2, rfl, hc1, hc2, hb1⟩
        have HB1 := hide' hb1
        clear hb1
        go_wp2
        go_ret
        exact ⟨ret_b (HR.out.trans HD.out).symm, HB1.out⟩
  · have e0 : (kind == 0) = false := beq_eq_false_iff_ne.2 (by omega)
    have e1 : (kind == 1) = false := beq_eq_false_iff_ne.2 (by omega)
    by_cases h23 : kind = 2 ∨ kind = 3
    · have HN := hide' (nums_line h23 l)
      have hx : ((kind == 2) = true) ∨ ((kind == 2) = false ∧ (kind == 3) = true) := by
        rcases h23 with rfl | rfl
        · exact .inl rfl
        · exact .inr ⟨rfl, rfl⟩
      have HS := hide' (fun a2 b2 W p1 p2 p3 => mayLine_any v l a2 b2 W p1 p2 p3)
      clear h01 h23 hr
      rcases hx with hx | ⟨hx, hx'⟩
      all_goals
        go_enter Tryz.func93, Tryz.ntmps93
        go_wp2_with fail
        refine (HW.out _ _ _).mono ?_
        rintro e W1 ⟨a2, b2, rfl, hc1, hc2, hb1⟩
        have HB1 := hide' hb1
        clear hb1
        go_wp2_with fail
        refine (HS.out _ _ _ (HRD.out _ HB1.out) hc1 hc2).mono ?_
        rintro e W2 ⟨rfl, rfl⟩
        go_wp2
        go_ret
        refine ⟨ret_b ?_, HB1.out⟩
        rw [HR.out, ← Bool.decide_and]
        exact decide_eq_decide.2 HN.out.symm
    · have e2 : (kind == 2) = false := beq_eq_false_iff_ne.2 (by omega)
      have e3 : (kind == 3) = false := beq_eq_false_iff_ne.2 (by omega)
      have HS := hide' (fun lo a2 b2 W p1 p2 p3 => mayPairs_any v l lo a2 b2 W p1 p2 p3)
      clear h01 h23 hr
      by_cases h4 : kind = 4
      · have e4 : (kind == 4) = true := beq_iff_eq.2 h4
        have HN : Hid (PairsOk (-1099511627776) l ↔ (0 ≤ kind ∧ kind < 6 ∧ NumsOk kind l)) := by rw [h4]; exact (nums_store l).symm
        clear h4
        go_enter Tryz.func93, Tryz.ntmps93
        go_wp2_with fail
        refine (HW.out _ _ _).mono ?_
        rintro e W1 ⟨a2, b2, rfl, hc1, hc2, hb1⟩
        have HB1 := hide' hb1
        clear hb1
        go_wp2_with fail
        refine (HS.out _ _ _ _ (HRD.out _ HB1.out) hc1 hc2).mono ?_
        rintro e W2 ⟨rfl, hb2⟩
        have HB2 := hide' (HB1.out.trans (hb2.mono HB1.out.size))
        clear hb2
        go_wp2
        go_ret
        refine ⟨ret_b ?_, HB2.out⟩
        rw [HR.out]
        exact decide_eq_decide.2 HN.out
      · have e4 : (kind == 4) = false := beq_eq_false_iff_ne.2 h4
        by_cases h5 : kind = 5
        · have e5 : (kind == 5) = true := beq_iff_eq.2 h5
          have HN : Hid (PairsOk 0 l ↔ (0 ≤ kind ∧ kind < 6 ∧ NumsOk kind l)) := by rw [h5]; exact (nums_ledger l).symm
          clear h4 h5
          go_enter Tryz.func93, Tryz.ntmps93
          go_wp2_with fail
          refine (HW.out _ _ _).mono ?_
          rintro e W1 ⟨a1, b1, rfl, _, _, hb1⟩
          have HB1 := hide' hb1
          clear hb1
          go_wp2_with fail
          refine (HW.out _ _ _).mono ?_
          rintro e W2 ⟨a2, b2, rfl, hc1, hc2, hb2⟩
          have HB2 := hide' (HB1.out.trans (hb2.mono HB1.out.size))
          clear hb2
          go_wp2_with fail
          refine (HS.out _ _ _ _ (HRD.out _ HB2.out) hc1 hc2).mono ?_
          rintro e W3 ⟨rfl, hb3⟩
          have HB3 := hide' (HB2.out.trans (hb3.mono HB2.out.size))
          clear hb3
          go_wp2
          go_ret
          refine ⟨ret_b ?_, HB3.out⟩
          rw [HR.out]
          exact decide_eq_decide.2 HN.out
        · have e5 : (kind == 5) = false := beq_eq_false_iff_ne.2 h5
          have HD : Hid (decide (0 ≤ kind ∧ kind < 6 ∧ NumsOk kind l) = false) := decide_eq_false (fun h => by
            have n0 : kind ≠ 0 := beq_eq_false_iff_ne.1 e0
            have n1 : kind ≠ 1 := beq_eq_false_iff_ne.1 e1
            have n2 : kind ≠ 2 := beq_eq_false_iff_ne.1 e2
            have n3 : kind ≠ 3 := beq_eq_false_iff_ne.1 e3
            omega)
          clear h4 h5
          go_enter Tryz.func93, Tryz.ntmps93
          go_wp2_with fail
          refine (HW.out _ _ _).mono ?_
          rintro e W1 ⟨a1, b1, rfl, _, _, hb1⟩
          have HB1 := hide' hb1
          clear hb1
          go_wp2
          go_ret
          exact ⟨ret_b (HR.out.trans HD.out).symm, HB1.out⟩

end Go.Proofs.YtgpdbboieokldaaGreat

/- Contracts of objs: May, Fits, Same, own, seal. -/
namespace Go.Proofs.YtgpdbboieokldaaGreat
open Go.RowKit

theorem may_split (kind : Int) (l : List Int) (shut : Bool) (g : Int) : MayS ⟨kind, l, shut, g⟩ ↔ (shut = false → g = 0) ∧ (0 ≤ g ∧ g ≤ 2) ∧ (0 ≤ kind ∧ kind < 6 ∧ NumsOk kind l) :=
  ⟨fun h => ⟨h.2.2.1, ⟨h.1, h.2.1⟩, h.2.2.2.1, h.2.2.2.2.1, h.2.2.2.2.2⟩, fun h => ⟨h.2.1.1, h.2.1.2, h.1, h.2.2.1, h.2.2.2.1, h.2.2.2.2⟩⟩

set_option maxRecDepth 100000 in
set_option maxHeartbeats 1000000 in
theorem may_any (v : Value) (s : St) (w : World) (hs : StV w v s) :
    Calls Tryz.prog 67 #[v] w fun e w' => e = .returned (.bool (decide (MayS s))) ∧ Below w.heap.size w w' := by
  obtain ⟨vl, rfl, hr, -, -⟩ := hs
  obtain ⟨kind, l, shut, g⟩ := s
  simp only at hr ⊢
  have HW := hide' (fun p q W => within_any p q W)
  have HS := hide' (fun n l2 h2 a2 b2 W p1 p2 => is_any n l2 h2 a2 b2 W p1 p2)
  have HMN : Hid (∀ W, Below w.heap.size w W → Calls Tryz.prog 93 #[.int .i64 kind, vl] W fun e w' => e = .returned (.bool (decide (0 ≤ kind ∧ kind < 6 ∧ NumsOk kind l))) ∧ Below W.heap.size W w') := fun W h => mayNumbers_any kind vl l W (hr.below h (Nat.le_refl _))
  have HM := hide' (may_split kind l shut g)
  obtain ⟨R, hR⟩ : ∃ R, R = decide (MayS ⟨kind, l, shut, g⟩) := ⟨_, rfl⟩
  rw [← hR]
  have HR := hide' hR
  have HBA : Hid (∀ x, Below w.heap.size w (w.alloc x)) := fun x => (Below.refl _ _).alloc (Nat.le_refl _) x
  clear hR hr
  by_cases hbad : shut = false ∧ g ≠ 0
  · obtain ⟨rfl, hg⟩ := hbad
    have hq : (g != 0) = true := bne_iff_ne.2 hg
    have HD : Hid (decide (MayS ⟨kind, l, false, g⟩) = false) := decide_eq_false (fun h => hg ((HM.out.1 h).1 rfl))
    clear hg
    go_enter Tryz.func67, Tryz.ntmps67
    go_wp2
    go_ret
    exact ⟨ret_b (HR.out.trans HD.out).symm, HBA.out _⟩
  · have hx : ((g != 0) = false) ∨ ((g != 0) = true ∧ shut = true) := by
      by_cases h0 : g = 0
      · exact .inl (bne_eq_false_iff_eq.2 h0)
      · cases shut
        · exact absurd ⟨rfl, h0⟩ hbad
        · exact .inr ⟨bne_iff_ne.2 h0, rfl⟩
    have HB : Hid (shut = false → g = 0) := fun h => by
      by_cases h0 : g = 0
      · exact h0
      · exact absurd ⟨h, h0⟩ hbad
    clear hbad
    by_cases hin : 0 ≤ g ∧ g ≤ 2
    · have HN := hide' (decide_eq_true hin)
      have HI := hide' hin
      clear hin
      have HF : Hid (decide (0 ≤ kind ∧ kind < 6 ∧ NumsOk kind l) = R) := by
        rw [HR.out]
        exact decide_eq_decide.2 ⟨fun h => HM.out.2 ⟨HB.out, HI.out, h⟩, fun h => (HM.out.1 h).2.2⟩
      rcases hx with hx | ⟨hx, rfl⟩
      all_goals
        go_enter Tryz.func67, Tryz.ntmps67
        go_wp2_with fail
        refine (HW.out _ _ _).mono ?_
        rintro e W1 ⟨a1, b1, rfl, hc1, hc2, hb1⟩
        have hbx := (hb1.block w.heap.size (by simp)).trans (heap_alloc_new w _)
        have q0 := cell_of_row W1 w.heap.size 0 _ _ _ hbx
        have q1 := cell_of_row W1 w.heap.size 1 _ _ _ hbx
        have q3 := cell_of_row W1 w.heap.size 3 _ _ _ hbx
        have HB1 := hide' ((HBA.out _).trans (hb1.mono (HBA.out _).size))
        clear hb1 hbx
        go_wp2_with fail
        refine (HS.out _ _ _ _ _ _ hc1 hc2).mono ?_
        rintro e W2 ⟨rfl, rfl⟩
        rw [HN.out]
        go_wp2_with fail
        refine (HMN.out _ HB1.out).mono ?_
        rintro e W3 ⟨rfl, hb3⟩
        rw [HF.out]
        have HB3 := hide' (HB1.out.trans (hb3.mono HB1.out.size))
        clear hb3
        go_wp2
        go_ret
        exact ⟨rfl, HB3.out⟩
    · have HN := hide' (decide_eq_false hin)
      have HF : Hid (R = false) := HR.out.trans (decide_eq_false fun h => hin (HM.out.1 h).2.1)
      clear hin
      rcases hx with hx | ⟨hx, rfl⟩
      all_goals
        go_enter Tryz.func67, Tryz.ntmps67
        go_wp2_with fail
        refine (HW.out _ _ _).mono ?_
        rintro e W1 ⟨a1, b1, rfl, hc1, hc2, hb1⟩
        have hbx := (hb1.block w.heap.size (by simp)).trans (heap_alloc_new w _)
        have q3 := cell_of_row W1 w.heap.size 3 _ _ _ hbx
        have HB1 := hide' ((HBA.out _).trans (hb1.mono (HBA.out _).size))
        clear hb1 hbx
        go_wp2_with fail
        refine (HS.out _ _ _ _ _ _ hc1 hc2).mono ?_
        rintro e W2 ⟨rfl, rfl⟩
        rw [HN.out]
        go_wp2
        go_ret
        exact ⟨ret_b HF.out.symm, HB1.out⟩

end Go.Proofs.YtgpdbboieokldaaGreat

/- Contracts of objs: Fits, Same, Start, own, seal. -/
namespace Go.Proofs.YtgpdbboieokldaaGreat
open Go.RowKit

set_option maxRecDepth 100000 in
set_option maxHeartbeats 1000000 in
theorem fits_any (o : Opn) (w : World) :
    Calls Tryz.prog 112 #[opV o] w fun e w' => e = .returned (.bool (decide (FitsO o))) ∧ Below w.heap.size w w' := by
  obtain ⟨code, a, b⟩ := o
  have HW := hide' (fun p q W => within_any p q W)
  have HS := hide' (fun n l2 h2 a2 b2 W p1 p2 => is_any n l2 h2 a2 b2 W p1 p2)
  have HM : Hid (FitsO ⟨code, a, b⟩ ↔ (0 ≤ code ∧ code ≤ 10) ∧ (-1099511627776 ≤ a ∧ a ≤ 1099511627776) ∧ (-1099511627776 ≤ b ∧ b ≤ 1099511627776)) :=
    ⟨fun h => ⟨⟨h.1, h.2.1⟩, ⟨h.2.2.1, h.2.2.2.1⟩, h.2.2.2.2⟩, fun h => ⟨h.1.1, h.1.2, h.2.1.1, h.2.1.2, h.2.2⟩⟩
  obtain ⟨R, hR⟩ : ∃ R, R = decide (FitsO ⟨code, a, b⟩) := ⟨_, rfl⟩
  rw [← hR]
  have HR := hide' hR
  have HBA : Hid (∀ x, Below w.heap.size w (w.alloc x)) := fun x => (Below.refl _ _).alloc (Nat.le_refl _) x
  clear hR
  have go : ∀ t1 t2 t3, Hid (decide (0 ≤ code ∧ code ≤ 10) = t1) → Hid (decide (-1099511627776 ≤ a ∧ a ≤ 1099511627776) = t2) → Hid (decide (-1099511627776 ≤ b ∧ b ≤ 1099511627776) = t3) → Hid ((t1 && t2 && t3) = R) →
      Calls Tryz.prog 112 #[.agg #[.int .i64 code, .int .i64 a, .int .i64 b]] w fun e w' => e = .returned (.bool R) ∧ Below w.heap.size w w' := by
    intro t1 t2 t3 H1 H2 H3 HF
    go_enter Tryz.func112, Tryz.ntmps112
    go_wp2_with fail
    refine (HW.out _ _ _).mono ?_
    rintro e W1 ⟨a1, b1, rfl, hc1, hc2, hb1⟩
    have HB1 := hide' ((HBA.out _).trans (hb1.mono (HBA.out _).size))
    have HX1 := hide' ((hb1.block w.heap.size (by simp)).trans (heap_alloc_new w _))
    have HC1 := hide' hc1
    have HC2 := hide' hc2
    clear hb1 hc1 hc2
    go_wp2_with fail
    refine (HW.out _ _ _).mono ?_
    rintro e W2 ⟨a2, b2, rfl, hd1, hd2, hb2⟩
    have hx := (hb2.block w.heap.size (Array.getElem?_eq_some_iff.1 HX1.out).1).trans HX1.out
    have q0 := cell_of_row W2 w.heap.size 0 _ _ _ hx
    have q1 := cell_of_row W2 w.heap.size 1 _ _ _ hx
    have q2 := cell_of_row W2 w.heap.size 2 _ _ _ hx
    have hc1 := (hb2.cell (World.block_lt_of_cell? W1 ⟨a1, 0, none⟩ HC1.out)).trans HC1.out
    have hc2 := (hb2.cell (World.block_lt_of_cell? W1 ⟨b1, 0, none⟩ HC2.out)).trans HC2.out
    have HB2 := hide' (HB1.out.trans (hb2.mono HB1.out.size))
    have HC1' := hide' hc1
    have HC2' := hide' hc2
    have HD1' := hide' hd1
    have HD2' := hide' hd2
    clear hb2 hx HX1 HC1 HC2 hc1 hc2 hd1 hd2
    go_wp2_with fail
    refine (HS.out _ _ _ _ _ _ HC1'.out HC2'.out).mono ?_
    rintro e W3 ⟨rfl, rfl⟩
    rw [H1.out]
    cases t1
    · go_wp2
      go_ret
      exact ⟨ret_b (by rw [← HF.out]; rfl), HB2.out⟩
    · go_wp2_with fail
      refine (HS.out _ _ _ _ _ _ HD1'.out HD2'.out).mono ?_
      rintro e W3 ⟨rfl, rfl⟩
      rw [H2.out]
      cases t2
      · go_wp2
        go_ret
        exact ⟨ret_b (by rw [← HF.out]; rfl), HB2.out⟩
      · go_wp2_with fail
        refine (HS.out _ _ _ _ _ _ HD1'.out HD2'.out).mono ?_
        rintro e W3 ⟨rfl, rfl⟩
        rw [H3.out]
        go_wp2
        go_ret
        exact ⟨ret_b (by rw [← HF.out]; rfl), HB2.out⟩
  refine go _ _ _ rfl rfl rfl (hide' ?_)
  rw [HR.out, ← Bool.decide_and, ← Bool.decide_and]
  exact decide_eq_decide.2 ⟨fun h => HM.out.2 ⟨h.1.1, h.1.2, h.2⟩, fun h => ⟨⟨(HM.out.1 h).1, (HM.out.1 h).2.1⟩, (HM.out.1 h).2.2⟩⟩

end Go.Proofs.YtgpdbboieokldaaGreat

/- Contracts of the document's answer for layer num, its readers: read, Get, GetSigned, Fixed, Zig, Zag. -/
namespace Go.Proofs.YtgpdbboieokldaaGreat
open Go.RowKit

theorem zigzag_neg' (n : Int) (h : ¬ 0 ≤ n) : ((Lib.zigzag n : Nat) : Int) = -(n + 1) * 2 + 1 := by
  unfold Lib.zigzag
  rw [if_neg h]
  omega

set_option maxRecDepth 100000 in
set_option maxHeartbeats 400000 in
theorem refZig_any (n : Int) (w : World) (h0 : -9223372036854775808 ≤ n) (h1 : n ≤ 9223372036854775807) :
    Calls Tryz.prog 52 #[.int .i64 n] w fun e w' => e = .returned (.int .u64 (Lib.zigzag n : Nat)) ∧ w' = w := by
  by_cases h : 0 ≤ n
  · have HZ := hide (Lib.zigzag_nonneg h)
    go_enter Tryz.func52, Tryz.ntmps52
    go_wp2
    go_ret
    exact ⟨ret_int (by rw [HZ.out]), rfl⟩
  · have HZ := hide (zigzag_neg' n h)
    go_enter Tryz.func52, Tryz.ntmps52
    go_wp2
    go_ret
    exact ⟨ret_int (by rw [HZ.out]), rfl⟩

set_option maxRecDepth 100000 in
set_option maxHeartbeats 400000 in
theorem refZag_any (u : Nat) (w : World) (h : u < 18446744073709551616) :
    Calls Tryz.prog 103 #[.int .u64 (u : Int)] w fun e w' => e = .returned (.int .i64 (zag u)) ∧ w' = w := by
  have HZ : Hid (zag u = if u % 2 = 0 then ((u / 2 : Nat) : Int) else -((u / 2 : Nat) : Int) - 1) := rfl
  obtain ⟨U, hU⟩ : ∃ U : Int, U = (u : Int) := ⟨_, rfl⟩
  have hU0 : 0 ≤ U := by omega
  have hU1 : U < 18446744073709551616 := by omega
  rw [← hU]
  have HU := hide hU
  clear hU h
  by_cases hp : U % 2 = 0
  · have hq : (U % 2 == 0) = true := beq_iff_eq.2 hp
    have HQ := hide hp
    clear hp
    go_enter Tryz.func103, Tryz.ntmps103
    go_wp2
    go_ret
    have e := HU.out
    have e2 := HQ.out
    refine ⟨ret_int ?_, rfl⟩
    rw [HZ.out, if_pos (by omega)]
    omega
  · have hq : (U % 2 == 0) = false := beq_eq_false_iff_ne.2 hp
    have HQ := hide hp
    clear hp
    go_enter Tryz.func103, Tryz.ntmps103
    go_wp2
    go_ret
    have e := HU.out
    have e2 := HQ.out
    refine ⟨ret_int ?_, rfl⟩
    rw [HZ.out, if_neg (by omega)]
    omega

/-- 128^k modulo 2^64, as read reckons it. -/
def one128 (k : Nat) : Int := ((128 ^ k % 18446744073709551616 : Nat) : Int)

theorem one_step (k : Nat) : (one128 k * 128) % 18446744073709551616 = one128 (k + 1) := by
  unfold one128
  rw [Nat.pow_succ]
  omega

theorem read_step (l : List UInt8) (k : Nat) (hk : k < l.length) (h10 : k < 10) (h9 : k = 9 → ((l.getD k 0).toNat : Int) % 128 ≤ 1) :
    (((val (l.take k) : Nat) : Int) + (((l.getD k 0).toNat : Int) % 128 * one128 k) % 18446744073709551616) % 18446744073709551616 = ((val (l.take (k + 1)) : Nat) : Int) := by
  have hv := val_take_lt l k (by omega)
  have ho : one128 k = ((128 ^ k : Nat) : Int) := by
    unfold one128
    have : 128 ^ k ≤ 128 ^ 9 := Nat.pow_le_pow_right (by decide) (by omega)
    have e9 : 128 ^ 9 = 9223372036854775808 := by decide
    rw [Nat.mod_eq_of_lt (by omega)]
  rw [ho, val_take l k hk]
  have e : (((l.getD k 0).toNat : Int) % 128 * ((128 ^ k : Nat) : Int)) = (((l.getD k 0).toNat % 128 * 128 ^ k : Nat) : Int) := by
    rw [Int.natCast_mul]
    simp
  rw [e]
  have hb : (l.getD k 0).toNat % 128 * 128 ^ k < 9223372036854775809 := by
    by_cases hk9 : k = 9
    · have := h9 hk9
      subst hk9
      have e9 : 128 ^ 9 = 9223372036854775808 := by decide
      rw [e9]
      omega
    · have hp : 128 ^ k ≤ 128 ^ 8 := Nat.pow_le_pow_right (by decide) (by omega)
      have hm : (l.getD k 0).toNat % 128 ≤ 127 := by omega
      have := Nat.mul_le_mul hm hp
      have e8 : 127 * 128 ^ 8 < 9223372036854775809 := by decide
      omega
  have hv2 : val (l.take k) < 9223372036854775808 := by
    have : 128 ^ k ≤ 128 ^ 9 := Nat.pow_le_pow_right (by decide) (by omega)
    have e9 : 128 ^ 9 = 9223372036854775808 := by decide
    omega
  omega

set_option maxRecDepth 100000 in
set_option maxHeartbeats 1000000 in
theorem read_any (v : Value) (l : List UInt8) (w : World) (hr : Rd w v l) :
    Calls Tryz.prog 90 #[v] w fun e w' => e = .returned (.tuple #[.int .u64 ((dec64 l).1 : Nat), .int .i64 ((dec64 l).2 : Nat)]) ∧ w' = w := by
  obtain ⟨ao, cap, rfl, hlc, hcm, hn0, hao⟩ := hr
  clear hn0
  have hml : (l.length : Int) ≤ 9223372036854775807 := by unfold maxLen at hcm; omega
  go_enter Tryz.func90, Tryz.ntmps90
  go_wp2
  go_loop [4, 5, 6] (fun u one i => ∃ k : Nat, i = .int .i64 k ∧ k ≤ 10 ∧ k ≤ l.length ∧ Hid (∀ j, j < k → 128 ≤ (l.getD j 0).toNat) ∧ one = .int .u64 (one128 k) ∧ (k ≤ 9 → u = .int .u64 (val (l.take k) : Nat)) ∧ ∃ U : Int, u = .int .u64 U) (fun _ _ i => 10 - (intOf i).toNat)
  case atStart => exact ⟨0, rfl, by omega, by omega, fun j hj => by omega, rfl, fun _ => rfl, _, rfl⟩
  case round =>
    obtain ⟨k, rfl, hk10, hkl, hall, rfl, hu, U, rfl⟩ := hrel
    by_cases hlt : k < 10 ∧ k < l.length
    · obtain ⟨hlt, hlt'⟩ := hlt
      rcases hao with hao | ⟨b, off, rfl, hc⟩
      · subst hao; simp at hlt'
      · have hu' := hu (by omega)
        simp only [Value.int.injEq, true_and] at hu'
        subst hu'
        clear hu
        have hck := hc k hlt'
        clear hc
        obtain ⟨y, hy⟩ : ∃ y : Int, y = ((l.getD k 0).toNat : Int) := ⟨_, rfl⟩
        rw [← hy] at hck
        have hy0 : 0 ≤ y := by omega
        have hy1 : y < 256 := by have := (l.getD k 0).toNat_lt; omega
        have HY := hide hy
        clear hy
        have HR := hide (read_step l k hlt' hlt)
        have HO : Hid (one128 (k + 1) = (one128 k * 128) % 18446744073709551616) := (one_step k).symm
        have ho0 : 0 ≤ one128 k := by unfold one128; omega
        have ho1 : one128 k < 18446744073709551616 := by unfold one128; omega
        rw [← HY.out] at HR
        generalize one128 k = o at *
        obtain ⟨z, hz⟩ : ∃ z : Int, z = ((val (l.take k) : Nat) : Int) := ⟨_, rfl⟩
        rw [← hz] at HR ⊢
        clear hz
        by_cases hA : k = 9 ∧ 1 < y % 128
        · have H : Hid (dec64 l = (0, 0)) := by
            have e := HY.out
            obtain ⟨hk9, hd⟩ := hA
            subst hk9
            by_cases hy : y < 128
            · exact dec64_ten (.inr ⟨by omega, by omega, by omega, fun j hj => hall.out j (by omega), by show (l.getD 9 0).toNat < 128; omega⟩) (by omega)
            · exact dec64_none (.inl ⟨rfl, fun j h1 h2 => by
                by_cases ej : j = 9
                · subst ej; omega
                · exact hall.out j (by omega)⟩)
          have e9 : ((k : Int) == 9) = true := beq_iff_eq.2 (by omega)
          have hd := hA.2
          clear hA
          go_wp2
          go_ret2
          exact ⟨by rw [H.out]; rfl, rfl⟩
        · have HR2 := hide (HR.out (fun h => by omega))
          have HA := hide hA
          have h9 : (k = 9 ∧ ¬ 1 < y % 128) ∨ k ≠ 9 := by omega
          clear HR hA
          by_cases hy : y < 128
          · by_cases h0 : 0 < k ∧ y = 0
            · have H : Hid (dec64 l = (0, 0)) := by
                have e := HY.out
                exact dec64_last0 (.inr ⟨by omega, by omega, by omega, fun j hj => hall.out j (by omega), by show (l.getD k 0).toNat < 128; omega⟩) h0.1 (by omega)
              obtain ⟨hk0, hy00⟩ := h0
              have hk0' : (0 : Int) < (k : Int) := by omega
              have hd0 : (y % 128 == 0) = true := beq_iff_eq.2 (by omega)
              rcases h9 with ⟨e, hd⟩ | e
              · have e9 : ((k : Int) == 9) = true := beq_iff_eq.2 (by omega)
                clear e hy00
                go_wp2
                go_ret2
                exact ⟨by rw [H.out]; rfl, rfl⟩
              · have e9 : ((k : Int) == 9) = false := beq_eq_false_iff_ne.2 (by omega)
                clear e hy00
                go_wp2
                go_ret2
                exact ⟨by rw [H.out]; rfl, rfl⟩
            · have H : Hid (dec64 l = (val (l.take (k + 1)), k + 1)) := by
                have e := HY.out
                have h9' := HA.out
                exact (dec64_good (.inr ⟨by omega, by omega, by omega, fun j hj => hall.out j (by omega), by show (l.getD k 0).toNat < 128; omega⟩) (fun h => by omega) (fun h => by omega)).1
              have hw : (k = 9 ∧ ¬ 1 < y % 128 ∧ ¬ y % 128 = 0) ∨ (k ≠ 9 ∧ k = 0) ∨ (k ≠ 9 ∧ k ≠ 0 ∧ ¬ y % 128 = 0) := by omega
              clear h0 h9
              rcases hw with hw | hw | hw
              · have e9 : ((k : Int) == 9) = true := beq_iff_eq.2 (by omega)
                have hd := hw.2.1
                have hk0' : (0 : Int) < (k : Int) := by omega
                have hd0 : (y % 128 == 0) = false := beq_eq_false_iff_ne.2 (by omega)
                clear hw
                go_wp2
                go_ret2
                exact ⟨by rw [H.out]; simp only; rw [← HR2.out]; rfl, rfl⟩
              · have e9 : ((k : Int) == 9) = false := beq_eq_false_iff_ne.2 (by omega)
                have hk0' : ¬ (0 : Int) < (k : Int) := by omega
                clear hw
                go_wp2
                go_ret2
                exact ⟨by rw [H.out]; simp only; rw [← HR2.out]; rfl, rfl⟩
              · have e9 : ((k : Int) == 9) = false := beq_eq_false_iff_ne.2 (by omega)
                have hk0' : (0 : Int) < (k : Int) := by omega
                have hd0 : (y % 128 == 0) = false := beq_eq_false_iff_ne.2 (by omega)
                clear hw
                go_wp2
                go_ret2
                exact ⟨by rw [H.out]; simp only; rw [← HR2.out]; rfl, rfl⟩
          · have HJ : Hid (∀ j, j < k + 1 → 128 ≤ (l.getD j 0).toNat) := by
              have e := HY.out
              intro j hj
              by_cases ej : j = k
              · subst ej; omega
              · exact hall.out j (by omega)
            rcases h9 with ⟨e, hd⟩ | e
            · have e9 : ((k : Int) == 9) = true := beq_iff_eq.2 (by omega)
              clear e
              go_wp2
              go_round
              case rel => exact ⟨k + 1, by go_num, by omega, by omega, HJ, by rw [HO.out]; rfl, fun _ => by rw [← HR2.out]; rfl, _, rfl⟩
              case measure => simp [intOf]; omega
            · have e9 : ((k : Int) == 9) = false := beq_eq_false_iff_ne.2 (by omega)
              clear e
              go_wp2
              go_round
              case rel => exact ⟨k + 1, by go_num, by omega, by omega, HJ, by rw [HO.out]; rfl, fun _ => by rw [← HR2.out]; rfl, _, rfl⟩
              case measure => simp [intOf]; omega
    · have H : Hid (dec64 l = (0, 0)) := dec64_none (.inl ⟨rfl, fun j h1 h2 => hall.out j (by omega)⟩)
      by_cases hk : k < l.length
      all_goals
        go_wp2
        go_ret2
        exact ⟨by rw [H.out]; rfl, rfl⟩

set_option maxRecDepth 100000 in
set_option maxHeartbeats 400000 in
theorem refGet_any (v : Value) (l : List UInt8) (w : World) (hr : Rd w v l) :
    Calls Tryz.prog 63 #[v] w fun e w' => e = .returned (.tuple #[.int .i64 ((dec62 l).1 : Nat), .int .i64 ((dec62 l).2 : Nat)]) ∧ w' = w := by
  have HC := hide (read_any v l w hr)
  have H : Hid (dec62 l = if (dec64 l).1 < 4611686018427387904 then dec64 l else (0, 0)) := rfl
  have HD := hide (dec64_cases l)
  generalize dec64 l = d at *
  obtain ⟨u, k⟩ := d
  obtain ⟨U, hU⟩ : ∃ U : Int, U = (u : Int) := ⟨_, rfl⟩
  simp only at HC H HD
  rw [← hU] at HC
  have hU0 : 0 ≤ U := by omega
  have HU := hide hU
  clear hU
  by_cases hk : k = 0
  · have H2 : Hid (dec62 l = (0, 0)) := by
      have e := H.out
      rcases HD.out with h | h
      · have hu0 : u = 0 := congrArg Prod.fst h
        subst hu0 hk
        exact e
      · omega
    have hk0 : ((k : Int) == 0) = true := beq_iff_eq.2 (by omega)
    clear hk
    go_enter Tryz.func63, Tryz.ntmps63
    go_wp2_with fail
    refine HC.out.mono ?_
    rintro e w' ⟨rfl, rfl⟩
    go_wp2
    go_ret2
    rw [H2.out]
    exact ⟨rfl, rfl⟩
  · have hk0 : ((k : Int) == 0) = false := beq_eq_false_iff_ne.2 (by omega)
    clear hk
    by_cases hu : U < 4611686018427387904
    · go_enter Tryz.func63, Tryz.ntmps63
      go_wp2_with fail
      refine HC.out.mono ?_
      rintro e w' ⟨rfl, rfl⟩
      go_wp2
      go_ret2
      have e := H.out
      have eu := HU.out
      rw [if_pos (by omega)] at e
      rw [e]
      exact ⟨by rw [eu]; rfl, rfl⟩
    · go_enter Tryz.func63, Tryz.ntmps63
      go_wp2_with fail
      refine HC.out.mono ?_
      rintro e w' ⟨rfl, rfl⟩
      go_wp2
      go_ret2
      have e := H.out
      have eu := HU.out
      rw [if_neg (by omega)] at e
      rw [e]
      exact ⟨rfl, rfl⟩

set_option maxRecDepth 100000 in
set_option maxHeartbeats 400000 in
theorem refGetSigned_any (v : Value) (l : List UInt8) (w : World) (hr : Rd w v l) :
    Calls Tryz.prog 91 #[v] w fun e w' => e = .returned (.tuple #[.int .i64 (zag (dec64 l).1), .int .i64 ((dec64 l).2 : Nat)]) ∧ w' = w := by
  have HC := hide (read_any v l w hr)
  have hlt := dec64_lt l
  have HD := hide (dec64_cases l)
  generalize dec64 l = d at *
  obtain ⟨u, k⟩ := d
  simp only at HC hlt HD
  by_cases hk : k = 0
  · have hu : u = 0 := by
      rcases HD.out with h | h
      · exact congrArg Prod.fst h
      · omega
    subst hk hu
    clear HD
    go_enter Tryz.func91, Tryz.ntmps91
    go_wp2_with fail
    refine HC.out.mono ?_
    rintro e w' ⟨rfl, rfl⟩
    go_wp2
    go_ret2
    exact ⟨rfl, rfl⟩
  · have hk0 : ((k : Int) == 0) = false := beq_eq_false_iff_ne.2 (by omega)
    clear hk
    go_enter Tryz.func91, Tryz.ntmps91
    go_wp2_with fail
    refine HC.out.mono ?_
    rintro e w' ⟨rfl, rfl⟩
    go_wp2_with fail
    refine (refZag_any u _ hlt).mono ?_
    rintro e w1 ⟨rfl, rfl⟩
    go_wp2
    go_ret2
    exact ⟨rfl, rfl⟩

/-- The number of the bytes from the k-th on, of the first eight. -/
def leTail (l : List UInt8) (k : Nat) : Nat := Lib.leNat ((l.take 8).drop k)

theorem leTail_out (l : List UInt8) (k : Nat) (h : l.length ≤ k) : leTail l k = leTail l (k + 1) := by
  unfold leTail
  rw [List.drop_of_length_le (by simp; omega), List.drop_of_length_le (by simp; omega)]

theorem leTail_in (l : List UInt8) (k : Nat) (h : k < l.length) (h8 : k < 8) : leTail l k = (l.getD k 0).toNat + 256 * leTail l (k + 1) := by
  unfold leTail
  have hk : k < (l.take 8).length := by simp; omega
  rw [List.drop_eq_getElem_cons hk, Lib.leNat]
  simp [List.getD, h]

theorem leTail_lt (l : List UInt8) (k : Nat) (h8 : k ≤ 8) : leTail l k < 256 ^ (8 - k) := by
  unfold leTail
  have h := leNat_lt ((l.take 8).drop k)
  have h2 : ((l.take 8).drop k).length ≤ 8 - k := by simp; omega
  have h3 : 256 ^ ((l.take 8).drop k).length ≤ 256 ^ (8 - k) := Nat.pow_le_pow_right (by decide) h2
  omega

theorem fixed_step (l : List UInt8) (k : Nat) (h : k < l.length) (h8 : k < 8) :
    ((((leTail l (k + 1) : Nat) : Int) * 256) % 18446744073709551616 + ((l.getD k 0).toNat : Int)) % 18446744073709551616 = ((leTail l k : Nat) : Int) := by
  have h1 := leTail_in l k h h8
  have h2 := leTail_lt l (k + 1) (by omega)
  have h3 : 256 ^ (8 - (k + 1)) ≤ 256 ^ 7 := Nat.pow_le_pow_right (by decide) (by omega)
  have e7 : 256 ^ 7 = 72057594037927936 := by decide
  have hb := (l.getD k 0).toNat_lt
  omega

set_option maxRecDepth 100000 in
set_option maxHeartbeats 400000 in
theorem refFixed_any (v : Value) (l : List UInt8) (w : World) (hr : Rd w v l) :
    Calls Tryz.prog 64 #[v] w fun e w' => e = .returned (.int .u64 (Lib.leNat (l.take 8) : Nat)) ∧ w' = w := by
  obtain ⟨ao, cap, rfl, hlc, hcm, hn0, hao⟩ := hr
  clear hn0
  have hml : (l.length : Int) ≤ 9223372036854775807 := by unfold maxLen at hcm; omega
  have HE : Hid (leTail l 0 = Lib.leNat (l.take 8)) := rfl
  have H8 : Hid (leTail l 8 = 0) := by
    unfold leTail
    rw [List.drop_of_length_le (by simp; omega)]
    rfl
  go_enter Tryz.func64, Tryz.ntmps64
  go_wp2
  go_loop [3, 4] (fun n i => ∃ k : Nat, i = .int .i64 ((k : Int) - 1) ∧ k ≤ 8 ∧ n = .int .u64 (leTail l k : Nat)) (fun _ i => (intOf i + 1).toNat)
  case atStart => exact ⟨8, rfl, by omega, by rw [H8.out]; rfl⟩
  case round =>
    obtain ⟨k, rfl, hk8, rfl⟩ := hrel
    by_cases hk : k = 0
    · subst hk
      go_wp2
      go_ret
      exact ⟨ret_int (by rw [HE.out]), rfl⟩
    · obtain ⟨j, rfl⟩ : ∃ j, k = j + 1 := ⟨k - 1, by omega⟩
      clear hk
      by_cases hj : j < l.length
      · rcases hao with hao | ⟨b, off, rfl, hc⟩
        · subst hao; simp at hj
        · have hck := hc j hj
          have HS := hide (fixed_step l j hj (by omega))
          have hy : (l.getD j 0).toNat < 256 := UInt8.toNat_lt _
          clear hc
          generalize (l.getD j 0).toNat = y at *
          generalize leTail l (j + 1) = z at *
          go_wp2
          go_round
          case rel =>
            refine ⟨j, by go_num, by omega, ?_⟩
            rw [IntKind.wrap_u64, IntKind.wrap_u64, HS.out]
          case measure => simp [intOf]
      · have HS := hide (leTail_out l j (by omega))
        go_wp2
        go_round
        case rel => exact ⟨j, by go_num, by omega, by rw [HS.out]⟩
        case measure => simp [intOf]

end Go.Proofs.YtgpdbboieokldaaGreat

/- Contracts of the document's answer for layer num, what it puts: groups, Put, PutSigned, Fix. -/
namespace Go.Proofs.YtgpdbboieokldaaGreat
open Go.RowKit

set_option maxRecDepth 100000 in
set_option maxHeartbeats 1000000 in
theorem refGroups_any (u : Nat) (w : World) (hu : u < 18446744073709551616) :
    Calls Tryz.prog 51 #[.int .u64 (u : Int)] w fun e w' => ∃ v', e = .returned v' ∧ Own w' w.heap.size v' (Lib.uvarint u) ∧ Below w.heap.size w w' := by
  obtain ⟨i0, hi, hz0, hz1, hz2⟩ := info_parts info8
  have hlen := Lib.uvarint_length64 hu
  have HU := hide hu
  clear hu
  go_enter Tryz.func51, Tryz.ntmps51
  go_wp2
  go_loopw [0, 3] (fun vu vb wr => ∃ (y : Nat) (pre : List UInt8), vu = .int .u64 (y : Int) ∧ Hid (y ≤ u ∧ Lib.uvarint u = pre ++ Lib.uvarint y) ∧ Hid (Own wr w.heap.size vb ([] ++ pre)) ∧ Hid (Below w.heap.size w wr))
    (fun vu _ _ => (intOf vu).toNat)
  case atStart => exact ⟨u, [], rfl, ⟨Nat.le_refl _, rfl⟩, Own.nil _ _, Below.refl _ _⟩
  case round =>
    obtain ⟨y, pre, rfl, hys, hown1, hnx⟩ := hrel
    have hpl : pre.length + (Lib.uvarint y).length ≤ 10 := by
      have h2 := congrArg List.length hys.out.2
      rw [List.length_append] at h2
      omega
    have hyp := Lib.uvarint_pos y
    have hsz := hnx.out.size
    have hyb : (y : Int) ≤ 18446744073709551615 := by have := hys.out.1; have := HU.out; omega
    by_cases h128 : 128 ≤ y
    · go_wp2_with (at_builtin; refine wpList_append_own _ rfl _ _ 26 rfl w.heap.size 5 i0 (.int .u8 0) 1 1 Tryz.underlying26 hi hz0 hz1 hz2 rfl (by decide) _ _ _ rfl (World.ownsRow.alloc hown1.out _) ⟨wr.heap.size, 0, none⟩ 1 1 [Value.int .u8 ((y % 128 + 128 : Nat) : Int)] rfl rfl ?c1 ?c2 ?c3 ?c4 ?c5 ?_)
      case c1 =>
        intro j u hj
        match j, hj with
        | 0, hj => simp at hj; subst hj; simp [Addr.add]
      case c2 => intro u hu; simp at hu; subst hu; rfl
      case c3 => unfold maxLen; simp; omega
      case c4 => simp; omega
      case c5 => simp; omega
      intro v' w1 hown' hgrow _
      have hnx1 : Below w.heap.size w w1 := (hnx.out.alloc (by omega) _).grown hgrow (by simp; omega) (fun k hk => (World.ownsRow.lt hown1.out k hk).1)
      have HO := hide (Own.snoc [] pre (y % 128 + 128) (by omega) hown' (by simp) (by omega))
      have HB := hide hnx1
      clear hown' hnx1 hgrow
      go_wp2
      go_roundw
      case rel => exact ⟨y / 128, pre ++ [(y % 128 + 128).toUInt8], by go_num, ⟨by have := hys.out.1; omega, by rw [hys.out.2, Lib.uvarint_big h128]; simp⟩, HO, HB⟩
      case measure => simp [intOf]; omega
    · have hsm : Lib.uvarint y = [y.toUInt8] := Lib.uvarint_small (by omega)
      have HS := hide hsm
      clear hsm
      go_wp2_with (at_builtin; refine wpList_append_own _ rfl _ _ 26 rfl w.heap.size 5 i0 (.int .u8 0) 1 1 Tryz.underlying26 hi hz0 hz1 hz2 rfl (by decide) _ _ _ rfl (World.ownsRow.alloc hown1.out _) ⟨wr.heap.size, 0, none⟩ 1 1 [Value.int .u8 (y : Int)] rfl rfl ?c1 ?c2 ?c3 ?c4 ?c5 ?_)
      case c1 =>
        intro j u hj
        match j, hj with
        | 0, hj => simp at hj; subst hj; simp [Addr.add]
      case c2 => intro u hu; simp at hu; subst hu; rfl
      case c3 => unfold maxLen; simp; omega
      case c4 => simp; omega
      case c5 => simp; omega
      intro v' w1 hown' hgrow _
      have hnx1 : Below w.heap.size w w1 := (hnx.out.alloc (by omega) _).grown hgrow (by simp; omega) (fun k hk => (World.ownsRow.lt hown1.out k hk).1)
      have HO := hide (Own.snoc [] pre y (by omega) hown' (by simp) rfl)
      have HB := hide hnx1
      clear hown' hnx1 hgrow
      go_wp2
      go_ret
      refine ⟨v', rfl, ?_, HB.out⟩
      rw [hys.out.2, HS.out]
      exact HO.out

set_option maxRecDepth 100000 in
set_option maxHeartbeats 1000000 in
theorem refPut_any (v : Value) (l : List UInt8) (n : Int) (w : World) (hr : Rd w v l) (hlim : l.length ≤ 100000) :
    Calls Tryz.prog 19 #[v, .int .i64 n] w fun e w' => ∃ v', e = .returned v' ∧ Own w' w.heap.size v' (putOf l n) ∧ Below w.heap.size w w' := by
  have HR := hide hr
  clear hr
  by_cases h : 0 ≤ n ∧ n < 4611686018427387904
  · obtain ⟨h0, h1⟩ := h
    have HE : Hid (putOf l n = l ++ Lib.uvarint n.toNat) := if_pos ⟨h0, h1⟩
    have HL : Hid ((Lib.uvarint n.toNat).length ≤ 10) := Lib.uvarint_length64 (by omega)
    have HG : Hid (∀ w, Calls Tryz.prog 51 #[.int .u64 n] w fun e w' => ∃ v', e = .returned v' ∧ Own w' w.heap.size v' (Lib.uvarint n.toNat) ∧ Below w.heap.size w w') := by
      intro w
      have h := refGroups_any n.toNat w (by omega)
      have en : ((n.toNat : Nat) : Int) = n := Int.toNat_of_nonneg h0
      rwa [en] at h
    go_enter Tryz.func19, Tryz.ntmps19
    go_wp2_with (at_builtin; refine wpList_append_rd _ rfl _ _ rfl w.heap.size _ [] rfl (Own.nil _ _) _ l rfl HR.out (by simp; omega) (Nat.le_refl _) ?_)
    intro v1 w1 ho1 hb1
    have HO1 := hide ho1
    have HB1 := hide hb1
    clear ho1 hb1
    go_wp2_with fail
    refine (HG.out _).mono ?_
    rintro e w2 ⟨v2, rfl, ho2, hb2⟩
    have hs2 := HB1.out.size
    have HB2 := hide (HB1.out.trans (hb2.mono hs2))
    have HO2 := hide ho2
    have HO12 : Hid (Own w2 w.heap.size v1 l) := HO1.out.below hb2 (Nat.le_refl _)
    have hs3 := hb2.size
    clear ho2 hb2
    go_wp2_with (at_builtin; refine wpList_append_rd _ rfl _ _ rfl w.heap.size _ l rfl HO12.out _ (Lib.uvarint n.toNat) rfl HO2.out.rd (by have := HL.out; omega) (by omega) ?_)
    intro v3 w3 ho3 hb3
    have HO3 := hide ho3
    have HB3 := hide (HB2.out.trans hb3)
    clear ho3 hb3
    go_wp2
    go_ret
    exact ⟨v3, rfl, by rw [HE.out]; exact HO3.out, HB3.out⟩
  · have HE : Hid (putOf l n = l) := if_neg h
    by_cases h0 : n < 0
    all_goals
      go_enter Tryz.func19, Tryz.ntmps19
      go_wp2_with (at_builtin; refine wpList_append_rd _ rfl _ _ rfl w.heap.size _ [] rfl (Own.nil _ _) _ l rfl HR.out (by simp; omega) (Nat.le_refl _) ?_)
      intro v1 w1 ho1 hb1
      have HO1 := hide ho1
      have HB1 := hide hb1
      clear ho1 hb1
      go_wp2
      go_ret
      exact ⟨v1, rfl, by rw [HE.out]; exact HO1.out, HB1.out⟩

set_option maxRecDepth 100000 in
set_option maxHeartbeats 1000000 in
theorem refPutSigned_any (v : Value) (l : List UInt8) (n : Int) (w : World) (hr : Rd w v l) (hlim : l.length ≤ 100000) (h0 : -9223372036854775808 ≤ n) (h1 : n ≤ 9223372036854775807) :
    Calls Tryz.prog 20 #[v, .int .i64 n] w fun e w' => ∃ v', e = .returned v' ∧ Own w' w.heap.size v' (l ++ Lib.uvarint (Lib.zigzag n)) ∧ Below w.heap.size w w' := by
  have HR := hide hr
  clear hr
  have HL : Hid ((Lib.uvarint (Lib.zigzag n)).length ≤ 10) := Lib.uvarint_length64 (Lib.zigzag_lt h0 h1)
  have HG := hide (fun w => refGroups_any (Lib.zigzag n) w (Lib.zigzag_lt h0 h1))
  have HZ := hide (fun w => refZig_any n w h0 h1)
  generalize Lib.zigzag n = z at *
  go_enter Tryz.func20, Tryz.ntmps20
  go_wp2_with (at_builtin; refine wpList_append_rd _ rfl _ _ rfl w.heap.size _ [] rfl (Own.nil _ _) _ l rfl HR.out (by simp; omega) (Nat.le_refl _) ?_)
  intro v1 w1 ho1 hb1
  have HO1 := hide ho1
  have HB1 := hide hb1
  clear ho1 hb1
  go_wp2_with fail
  refine (HZ.out _).mono ?_
  rintro e w' ⟨rfl, rfl⟩
  go_wp2_with fail
  refine (HG.out _).mono ?_
  rintro e w2 ⟨v2, rfl, ho2, hb2⟩
  have hs2 := HB1.out.size
  have HB2 := hide (HB1.out.trans (hb2.mono hs2))
  have HO2 := hide ho2
  have HO12 : Hid (Own w2 w.heap.size v1 l) := HO1.out.below hb2 (Nat.le_refl _)
  have hs3 := hb2.size
  clear ho2 hb2
  go_wp2_with (at_builtin; refine wpList_append_rd _ rfl _ _ rfl w.heap.size _ l rfl HO12.out _ (Lib.uvarint z) rfl HO2.out.rd (by have := HL.out; omega) (by omega) ?_)
  intro v3 w3 ho3 hb3
  have HO3 := hide ho3
  have HB3 := hide (HB2.out.trans hb3)
  clear ho3 hb3
  go_wp2
  go_ret
  exact ⟨v3, rfl, HO3.out, HB3.out⟩

set_option maxRecDepth 100000 in
set_option maxHeartbeats 1000000 in
theorem fix_any (v c : Nat) (w : World) (hc : c ≤ 8) (hv : v < 18446744073709551616) :
    Calls Tryz.prog 55 #[.int .u64 (v : Int), .int .i64 (c : Int)] w fun e w' => ∃ v', e = .returned v' ∧ Own w' w.heap.size v' (Lib.leBytes c v) ∧ Below w.heap.size w w' := by
  obtain ⟨i0, hi, hz0, hz1, hz2⟩ := info_parts info8
  have HV := hide hv
  clear hv
  go_enter Tryz.func55, Tryz.ntmps55
  go_wp2
  go_loopw [0, 5, 6] (fun vn vb vi wr => ∃ k : Nat, k ≤ c ∧ vi = .int .i64 (k : Int) ∧ vn = .int .u64 ((v / 256 ^ k : Nat) : Int) ∧ Hid (Own wr w.heap.size vb ([] ++ Lib.leBytes k v)) ∧ Hid (Below w.heap.size w wr))
    (fun _ _ vi _ => c - (intOf vi).toNat)
  case atStart => exact ⟨0, Nat.zero_le _, rfl, by simp, Own.nil _ _, Below.refl _ _⟩
  case round =>
    obtain ⟨k, hk, rfl, rfl, hown1, hnx⟩ := hrel
    have hsz := hnx.out.size
    by_cases hlt : k < c
    · have HQ : Hid (v / 256 ^ (k + 1) = v / 256 ^ k / 256 ∧ Lib.leBytes (k + 1) v = Lib.leBytes k v ++ [(v / 256 ^ k % 256).toUInt8]) := ⟨by rw [Nat.pow_succ, Nat.div_div_eq_div_mul], leBytes_snoc k v⟩
      have hll := Lib.leBytes_length k v
      have HLL := hide hll
      have hl8 : (Lib.leBytes k v).length ≤ 8 := by omega
      have hyb : ((v / 256 ^ k : Nat) : Int) ≤ 18446744073709551615 := by have := Nat.div_le_self v (256 ^ k); have := HV.out; omega
      clear hll
      generalize v / 256 ^ k = y at *
      generalize Lib.leBytes k v = pre at *
      go_wp2_with (at_builtin; refine wpList_append_own _ rfl _ _ 26 rfl w.heap.size 5 i0 (.int .u8 0) 1 1 Tryz.underlying26 hi hz0 hz1 hz2 rfl (by decide) _ _ _ rfl (World.ownsRow.alloc hown1.out _) ⟨wr.heap.size, 0, none⟩ 1 1 [Value.int .u8 ((y % 256 : Nat) : Int)] rfl rfl ?c1 ?c2 ?c3 ?c4 ?c5 ?_)
      case c1 =>
        intro j u hj
        match j, hj with
        | 0, hj => simp at hj; subst hj; simp [Addr.add]
      case c2 => intro u hu; simp at hu; subst hu; rfl
      case c3 => unfold maxLen; simp; omega
      case c4 => simp; omega
      case c5 => simp; omega
      intro v' w1 hown' hgrow _
      have hnx1 : Below w.heap.size w w1 := (hnx.out.alloc (by omega) _).grown hgrow (by simp; omega) (fun k hk => (World.ownsRow.lt hown1.out k hk).1)
      have HO := hide (Own.snoc [] pre (y % 256) (by omega) hown' (by simp) (by omega))
      have HB := hide hnx1
      clear hown' hnx1 hgrow
      go_wp2
      go_roundw
      case rel => exact ⟨k + 1, by omega, by go_num, by rw [HQ.out.1]; go_num, by rw [HQ.out.2]; exact HO, HB⟩
      case measure => simp [intOf]; omega
    · go_wp2
      go_ret
      have e : k = c := by omega
      exact ⟨_, rfl, by rw [← e]; exact hown1.out, hnx.out⟩

end Go.Proofs.YtgpdbboieokldaaGreat

