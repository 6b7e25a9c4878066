/- Contract over entries of slices.Insert. -/
import Derived.Test.YtgpdbboieokldaaSnapDel
import Derived.Shelf.Spec.SlicesInsertGrow
import Derived.Deep.DeepAppendWide
namespace Go.Proofs.Ytgpdbboieokldaa
open Go.RowKit

theorem RdE.one (w : World) (e : Ent) (he : EntI e) : RdE (w.alloc (.cells (entC e) 55)) (.slice (some ⟨w.heap.size, 0, none⟩) 1 1) [e] := by
  have h := OwnE.ofRow (w := w.alloc (.cells (entC e) 55)) (B := w.heap.size) (g := w.heap.size) (cap := 1) (l := [e]) (n := 1) rfl (Nat.le_refl _) (heap_alloc_new w _) (Nat.le_refl _) (by unfold maxLen; decide) rfl (fun j hj => by
    rw [List.length_singleton] at hj
    match j, hj with
    | 0, _ => rfl
    | 1, _ => rfl
    | 2, _ => rfl)
  exact h.rd (fun x hx => by rw [List.mem_singleton.1 hx]; exact he)

theorem ins_cells3 (l : List Ent) (i : Nat) (hi : i ≤ l.length) (e : Ent) (f : Nat → Option Value) (h1 : ∀ j, j < i * 3 → f j = (entCells l)[j]?) (h2 : ∀ j, j < 3 → f (i * 3 + j) = (entCells [e])[j]?)
    (h3 : ∀ j, j < (l.length - i) * 3 → f ((i + 1) * 3 + j) = (entCells (l.drop i))[j]?) (j : Nat) (hj : j < (l.length + 1) * 3) : f j = (entCells (l.take i ++ (e :: l.drop i)))[j]? := by
  have e1 : l.take i ++ (e :: l.drop i) = l.take i ++ ([e] ++ l.drop i) := rfl
  have l1 : (entCells (l.take i)).length = i * 3 := by rw [entCells_length, List.length_take]; congr 1; omega
  have l2 : (entCells [e]).length = 3 := entCells_length [e]
  rw [e1, entCells_app, entCells_app]
  by_cases g1 : j < i * 3
  · rw [List.getElem?_append_left (by omega), h1 j g1, entCells_take, List.getElem?_take_of_lt g1]
  · rw [List.getElem?_append_right (by omega), l1]
    by_cases g2 : j < i * 3 + 3
    · rw [List.getElem?_append_left (by omega), ← h2 (j - i * 3) (by omega)]
      congr 1
      omega
    · rw [List.getElem?_append_right (by omega), l2, ← h3 (j - i * 3 - 3) (by omega)]
      congr 1
      omega

theorem ins_length (l : List Ent) (i : Nat) (hi : i ≤ l.length) (e : Ent) : (l.take i ++ (e :: l.drop i)).length = l.length + 1 := by simp; omega

/-- What slices.Insert answers. -/
def InsE (w : World) (B : Nat) (L : List Ent) (x : Ending) (w' : World) : Prop := ∃ v', x = .returned v' ∧ OwnE w' B v' L ∧ Below B w w'

set_option maxRecDepth 100000 in
set_option maxHeartbeats 2000000 in
theorem insertE_end (v : Value) (l : List Ent) (B : Nat) (w : World) (ho : OwnE w B v l) (hB : B ≤ w.heap.size) (hlim : l.length ≤ 100000) (e : Ent) (he : EntI e) (I : Int) (hI : I = (l.length : Nat)) (N : Nat) (hN : N = w.heap.size) :
    Calls Try.prog 88 #[v, .int .i64 I, .slice (some ⟨N, 0, none⟩) 1 1] (w.alloc (.cells (entC e) 55)) fun x w' => InsE w B (l.take l.length ++ (e :: l.drop l.length)) x w' := by
  subst hI hN
  have HE : Hid (l.take l.length ++ (e :: l.drop l.length) = l ++ [e]) := hide (by rw [List.take_length, List.drop_length])
  rw [HE.out]
  have HR := hide (RdE.one w e he)
  have HB0 : Hid (∀ X, Below B w (w.alloc X)) := fun X => (Below.refl _ _).alloc hB X
  have HO := hide (ho.below ((Below.refl w.heap.size w).alloc (Nat.le_refl _) (.cells (entC e) 55)) (Nat.le_refl _))
  have hsz : B ≤ (w.alloc (.cells (entC e) 55)).heap.size := by simp; omega
  rcases ho.row with ⟨rfl, rfl⟩ | ⟨g, cap, cur, rfl, hBg, hlt, hg, hn, hm, hs, hc⟩
  · clear ho HE
    go_enter Try.func88, Try.ntmps88
    go_wp2_with (at_builtin; refine wpList_append_ents _ rfl _ _ rfl B _ [] rfl HO.out _ [e] rfl HR.out (by simp) hsz ?_)
    intro v1 W1 ho1 hb1
    have HO1 := hide ho1
    have HB1 := hide ((HB0.out _).trans hb1)
    clear ho1 hb1
    go_wp2
    go_ret
    exact ⟨_, rfl, HO1.out, HB1.out⟩
  · have hmi : (cap : Int) ≤ 9223372036854775807 := by unfold maxLen at hm; omega
    have hni : (l.length : Int) ≤ (cap : Int) := by omega
    clear ho HE hc hg hs hm
    by_cases hcl : cap = l.length
    all_goals
      go_enter Try.func88, Try.ntmps88
      go_wp2_with (at_builtin; refine wpList_append_ents _ rfl _ _ rfl B _ l rfl HO.out _ [e] rfl HR.out (by simp; omega) hsz ?_)
      intro v1 W1 ho1 hb1
      have HO1 := hide ho1
      have HB1 := hide ((HB0.out _).trans hb1)
      clear ho1 hb1
      go_wp2
      go_ret
      exact ⟨_, rfl, HO1.out, HB1.out⟩

theorem ov_ent (w : World) (g N kA kB : Nat) (hne : N ≠ g) (la ca lb cb o : Nat) (hsa : w.shape? N = some (55, kA)) (hsb : w.shape? g = some (55, kB)) (hkB : kB ≠ 0) (hfa : ∀ k, w.frozen? ⟨N, k, none⟩ = false) :
    (callFunc 111 #[.slice (some ⟨N, 0, none⟩) la ca, .slice (some ⟨g, o, none⟩) lb cb]).run Try.prog w = .ok (.value (.bool false)) w := by
  rw [run_callFunc_extern Try.func111 (by kernel_rfl) (by kernel_rfl) (by kernel_rfl) (e := Extern.SlicesOverlaps.overlaps #[25, 25] #[4]) (by kernel_rfl),
    Lib.run_overlaps_apart w 25 4 55 Try.underlying25 3 Try.sizeOf55 ⟨N, 0, none⟩ ⟨g, o, none⟩ la ca lb cb hne _ _ kA kB hsa hsb hkB (hfa 0) (hfa kA)]
  rfl

theorem size_ent : (Try.prog.info? 55).map (·.size) = some 3 := by
  obtain ⟨i0, hi, hz0, hz1, hz2⟩ := info_parts info_ent
  rw [hi]
  simp [hz1]

set_option maxRecDepth 100000 in
set_option maxHeartbeats 4000000 in
theorem insertE_room (g cap : Nat) (l : List Ent) (B : Nat) (w : World) (ho : OwnE w B (.slice (some ⟨g, 0, none⟩) l.length cap) l) (hB : B ≤ w.heap.size) (i : Nat) (hi : i < l.length) (hroom : l.length + 1 ≤ cap) (e : Ent) (I : Int) (hI : I = (i : Nat)) (N : Nat) (hN : N = w.heap.size) :
    Calls Try.prog 88 #[.slice (some ⟨g, 0, none⟩) l.length cap, .int .i64 I, .slice (some ⟨N, 0, none⟩) 1 1] (w.alloc (.cells (entC e) 55)) fun x w' => InsE w B (l.take i ++ (e :: l.drop i)) x w' := by
  subst hI
  rcases ho.row with ⟨h1, -⟩ | ⟨g', cap', cur, h1, hBg, hlt, hg, hn, hm, hs, hc⟩
  · cases h1
  injection h1 with h1 _ h3
  injection h1 with h1
  injection h1 with h1
  subst h1 h3
  clear ho
  have hv : (w.alloc (.cells (entC e) 55)).heap[N]? = some (.cells (entC e) 55 (0, 0)) := by rw [hN]; exact heap_alloc_new w _
  have hg0 : (w.alloc (.cells (entC e) 55)).heap[g]? = some (.cells cur 55 (0, 0)) := (Below.heap_alloc _ _ _ hlt).trans hg
  have HB0 : Hid (Below B w (w.alloc (.cells (entC e) 55))) := (Below.refl _ _).alloc hB _
  generalize w.alloc (.cells (entC e) 55) = W at *
  have hne : N ≠ g := by omega
  have hm' : (cap : Int) ≤ 9223372036854775807 := by unfold maxLen at hm; omega
  have hfz : ∀ (j : Nat), W.frozen? ⟨g, j, none⟩ = false := fun j => frozen_of_row W g j _ _ hg0
  have hov : ∀ la ca lb cb o, (callFunc 111 #[.slice (some ⟨N, 0, none⟩) la ca, .slice (some ⟨g, o, none⟩) lb cb]).run Try.prog W = .ok (.value (.bool false)) W := fun la ca lb cb o =>
    ov_ent W g N 3 (cap * 3) hne la ca lb cb o (by simp [World.shape?, hv, entC]) (by simp [World.shape?, hg0, hs]) (by omega) (fun k => frozen_of_row W N k _ _ hv)
  have hdl : (entCells (l.drop i)).length = (l.length - i) * 3 := by rw [entCells_length, List.length_drop]
  have hsome : ∀ j, j < (l.length + 1) * 3 → (W.cell? ⟨g, j, none⟩).isSome = true := fun j hj => by
    rw [cell_of_row W g j _ _ _ hg0, Array.getElem?_eq_getElem (by omega)]
    rfl
  have hcp1 : ∀ W', (∀ x, W'.cell? x = W.cell? x) → (∀ x, W'.frozen? x = W.frozen? x) → ∀ ty dc sc, (Builtin.copy_ #[25, 25] ty #[.slice (some ⟨g, (i + 1) * 3, none⟩) (l.length - i) dc, .slice (some ⟨g, i * 3, none⟩) (l.length + 1 - i) sc]).run Try.prog W' = .ok (goInt (Nat.min (l.length + 1 - i) (l.length - i))) (W'.setCells g ((i + 1) * 3) (entCells (l.drop i))) := fun W' hWc hWf ty dc sc =>
    run_copy_many W' _ _ ty 55 3 g ((i + 1) * 3) (l.length - i) dc ⟨g, i * 3, none⟩ (l.length + 1 - i) sc (entCells (l.drop i)) Try.underlying25 size_ent (by rw [hdl]; simp only [Nat.min_def]; split <;> omega)
      (fun j v hj => by
        have hj' : j < (l.length - i) * 3 := by rw [← hdl]; exact (List.getElem?_eq_some_iff.1 hj).1
        rw [Addr.add_lit, hWc, cell_of_row W g _ _ _ _ hg0, hc _ (by omega)]
        rw [entCells_drop, List.getElem?_drop] at hj
        exact hj)
      (fun j hj => by rw [hWc]; exact hsome _ (by omega)) (fun j hj => by rw [hWf]; exact hfz _) (entCells_one _)
  obtain ⟨W1, hW1⟩ : ∃ W1, W1 = W.drew.setCells g ((i + 1) * 3) (entCells (l.drop i)) := ⟨_, rfl⟩
  have hg1 : W1.heap[g]? = some (.cells (layC cur ((i + 1) * 3) (entCells (l.drop i))) 55 (0, 0)) := by rw [hW1]; exact heap_setCells g _ _ _ W.drew cur hg0
  have hv1 : W1.heap[N]? = some (.cells (entC e) 55 (0, 0)) := by rw [hW1, setCells_other g _ _ _ N hne]; exact hv
  have hl3 : (entCells [e]).length = 3 := entCells_length [e]
  have hcp2 : ∀ W', (∀ x, W'.cell? x = W1.cell? x) → (∀ x, W'.frozen? x = W1.frozen? x) → ∀ ty dc, (Builtin.copy_ #[25, 25] ty #[.slice (some ⟨g, i * 3, none⟩) (l.length + 1 - i) dc, .slice (some ⟨N, 0, none⟩) 1 1]).run Try.prog W' = .ok (goInt (Nat.min 1 (l.length + 1 - i))) (W'.setCells g (i * 3) (entCells [e])) := fun W' hWc hWf ty dc =>
    run_copy_many W' _ _ ty 55 3 g (i * 3) (l.length + 1 - i) dc ⟨N, 0, none⟩ 1 1 (entCells [e]) Try.underlying25 size_ent (by rw [hl3]; simp only [Nat.min_def]; split <;> omega)
      (fun j v hj => by
        rw [Addr.add_lit, hWc, Nat.zero_add, cell_of_row W1 N _ _ _ _ hv1]
        have : (entCells [e])[j]? = (entC e)[j]? := by
          have hj' : j < 3 := by rw [← hl3]; exact (List.getElem?_eq_some_iff.1 hj).1
          have := entCells_get [e] 0 j (by simp) hj'
          rwa [Nat.zero_mul, Nat.zero_add] at this
        rw [← this]
        exact hj)
      (fun j hj => by
        rw [hWc, cell_of_row W1 g _ _ _ _ hg1, Array.getElem?_eq_getElem (by rw [layC_size]; omega)]
        rfl) (fun j hj => by rw [hWf]; exact frozen_of_row W1 g _ _ _ hg1) (entCells_one _)
  have HFIN : Hid (InsE w B (l.take i ++ (e :: l.drop i)) (.returned (.slice (some ⟨g, 0, none⟩) (l.length + 1) cap)) (W1.setCells g (i * 3) (entCells [e]))) := hide (by
    refine ⟨_, rfl, OwnE.ofRow (ins_length l i (by omega) e).symm hBg (heap_setCells g _ _ _ W1 _ hg1) (by rw [ins_length l i (by omega) e]; exact hroom) hm (by rw [layC_size, layC_size]; exact hs) (fun j hj => ?_), ?_⟩
    · rw [ins_length l i (by omega) e] at hj
      refine ins_cells3 l i (by omega) e (fun j => (layC (layC cur ((i + 1) * 3) (entCells (l.drop i))) (i * 3) (entCells [e]))[j]?) (fun k hk => ?_) (fun k hk => ?_) (fun k hk => ?_) j hj
      · show (layC (layC cur ((i + 1) * 3) (entCells (l.drop i))) (i * 3) (entCells [e]))[k]? = _
        rw [layC_get _ _ _ _ (by rw [layC_size]; omega), if_neg (by omega), layC_get _ _ _ _ (by omega), if_neg (by omega)]
        exact hc k (by omega)
      · show (layC (layC cur ((i + 1) * 3) (entCells (l.drop i))) (i * 3) (entCells [e]))[i * 3 + k]? = _
        rw [layC_get _ _ _ _ (by rw [layC_size]; omega), if_pos (by omega), Nat.add_sub_cancel_left]
      · show (layC (layC cur ((i + 1) * 3) (entCells (l.drop i))) (i * 3) (entCells [e]))[(i + 1) * 3 + k]? = _
        rw [layC_get _ _ _ _ (by rw [layC_size]; omega), if_neg (by omega), layC_get _ _ _ _ (by omega), if_pos (by omega), Nat.add_sub_cancel_left]
    · rw [hW1]
      exact belowCells hBg _ _ _ (belowCells hBg _ _ _ (belowDrew HB0.out)))
  have hcq1 := fun ty dc sc => hcp1 W.drew (fun _ => rfl) (fun _ => rfl) ty dc sc
  have hcq2 := fun ty dc => hcp2 W1 (fun _ => rfl) (fun _ => rfl) ty dc
  clear hcp1 hcp2
  rw [hW1] at HFIN hcq2
  clear hW1 hg1 hv1 hc hs hg hg0 hv hsome hfz hm HB0 hdl hl3 hN
  have mixed : Try.prog.follows .mixedOrders = true := by kernel_rfl
  have hz2 : ¬ ((i : Int) = (l.length : Int)) := by omega
  have hz3 : ((i : Int) == (l.length : Int)) = false := beq_eq_false_iff_ne.2 hz2
  have hw1 : IntKind.i64.wrap ((i : Int) + 1) = (i : Int) + 1 := by rw [IntKind.wrap_i64]; omega
  have hw2 : IntKind.i64.wrap ((l.length : Int) + 1) = (l.length : Int) + 1 := by rw [IntKind.wrap_i64]; omega
  have hb1 : (0 : Int) ≤ (i : Int) + 1 := by omega
  have hin : i ≤ l.length := by omega
  have hini : (i : Int) ≤ (l.length : Int) := by omega
  have htn : ((i : Int) + 1).toNat = i + 1 := by omega
  have htl : ((l.length : Int) + 1).toNat = l.length + 1 := by omega
  have hb2 : ¬ (cap = i + 1) := by omega
  have hb3 : (i : Int) ≤ (l.length : Int) + 1 := by omega
  have hb4 : ¬ (cap = i) := by omega
  have hb5 : ¬ ((cap : Int) < (l.length : Int) + 1) := by omega
  have hb6 : (l.length : Int) + 1 ≤ (cap : Int) := by omega
  have hb7 : (i : Int) + 1 ≤ (l.length : Int) + 1 := by omega
  generalize entCells (l.drop i) = dcs at *
  generalize entCells [e] = ecs at *
  generalize l.take i ++ (e :: l.drop i) = LL at *
  go_enter Try.func88, Try.ntmps88
  go_wp2_with (simp only [hov])
  go_region_law_o (refine step_copy_runI rfl _ _ 25 25 rfl _ _ (by simp [Act.eval, Act.put]) (by simp [Act.eval, Act.put]) (hcq1 _ _ _) ?_)
  go_wp2_with (at_builtin; refine wpList_copy_runI _ rfl _ _ 25 25 rfl _ _ rfl rfl (hcq2 _ _) ?_)
  go_wp2
  go_ret
  exact HFIN.out

end Go.Proofs.Ytgpdbboieokldaa
