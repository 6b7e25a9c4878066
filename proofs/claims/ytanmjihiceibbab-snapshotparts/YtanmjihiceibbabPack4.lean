import Derived.Test.YtanmjihiceibbabPack3
import Derived.Shelf.Spec.SlicesInsertGrow
import Derived.Deep.DeepAppendWide
import Derived.Test.YtanmjihiceibbabPack2
import Derived.Test.YtanmjihiceibbabPack1
import Derived.Deep.QuietTactic
import Derived.BigQuiet
/- Contract over entries of slices.Insert. -/
namespace Go.Proofs.Ytanmjihiceibbab
open Go.RowKit

theorem RdE.one (w : World) (e : Ent) (he : EntI e) : RdE (w.alloc (.cells (entC e) 47)) (.slice (some ⟨w.heap.size, 0, none⟩) 1 1) [e] := by
  have h := OwnE.ofRow (w := w.alloc (.cells (entC e) 47)) (B := w.heap.size) (g := w.heap.size) (cap := 1) (l := [e]) (n := 1) rfl (Nat.le_refl _) (heap_alloc_new w _) (Nat.le_refl _) (by unfold maxLen; decide) rfl (fun j hj => by
    rw [List.length_singleton] at hj
    match j, hj with
    | 0, _ => rfl
    | 1, _ => rfl
    | 2, _ => rfl)
  exact h.rd (fun x hx => by rw [List.mem_singleton.1 hx]; exact he)

theorem ins_cells3 (l : List Ent) (i : Nat) (hi : i ≤ l.length) (e : Ent) (f : Nat → Option Value) (h1 : ∀ j, j < i * 3 → f j = (entCells l)[j]?) (h2 : ∀ j, j < 3 → f (i * 3 + j) = (entCells [e])[j]?)
    (h3 : ∀ j, j < (l.length - i) * 3 → f ((i + 1) * 3 + j) = (entCells (l.drop i))[j]?) (j : Nat) (hj : j < (l.length + 1) * 3) : f j = (entCells (l.take i ++ (e :: l.drop i)))[j]? := by
  have e1 : l.take i ++ (e :: l.drop i) = l.take i ++ ([e] ++ l.drop i) := rfl
  have l1 : (entCells (l.take i)).length = i * 3 := by rw [entCells_length, List.length_take]; congr 1; omega
  have l2 : (entCells [e]).length = 3 := entCells_length [e]
  rw [e1, entCells_app, entCells_app]
  by_cases g1 : j < i * 3
  · rw [List.getElem?_append_left (by omega), h1 j g1, entCells_take, List.getElem?_take_of_lt g1]
  · rw [List.getElem?_append_right (by omega), l1]
    by_cases g2 : j < i * 3 + 3
    · rw [List.getElem?_append_left (by omega), ← h2 (j - i * 3) (by omega)]
      congr 1
      omega
    · rw [List.getElem?_append_right (by omega), l2, ← h3 (j - i * 3 - 3) (by omega)]
      congr 1
      omega

theorem ins_length (l : List Ent) (i : Nat) (hi : i ≤ l.length) (e : Ent) : (l.take i ++ (e :: l.drop i)).length = l.length + 1 := by simp; omega

/-- What slices.Insert answers. -/
def InsE (w : World) (B : Nat) (L : List Ent) (x : Ending) (w' : World) : Prop := ∃ v', x = .returned v' ∧ OwnE w' B v' L ∧ Below B w w'

set_option maxRecDepth 100000 in
set_option maxHeartbeats 2000000 in
theorem insertE_end (v : Value) (l : List Ent) (B : Nat) (w : World) (ho : OwnE w B v l) (hB : B ≤ w.heap.size) (hlim : l.length ≤ 100000) (e : Ent) (he : EntI e) (I : Int) (hI : I = (l.length : Nat)) (N : Nat) (hN : N = w.heap.size) :
    Calls Try.prog 29 #[v, .int .i64 I, .slice (some ⟨N, 0, none⟩) 1 1] (w.alloc (.cells (entC e) 47)) fun x w' => InsE w B (l.take l.length ++ (e :: l.drop l.length)) x w' := by
  subst hI hN
  have HE : Hid (l.take l.length ++ (e :: l.drop l.length) = l ++ [e]) := hide (by rw [List.take_length, List.drop_length])
  rw [HE.out]
  have HR := hide (RdE.one w e he)
  have HB0 : Hid (∀ X, Below B w (w.alloc X)) := fun X => (Below.refl _ _).alloc hB X
  have HO := hide (ho.below ((Below.refl w.heap.size w).alloc (Nat.le_refl _) (.cells (entC e) 47)) (Nat.le_refl _))
  have hsz : B ≤ (w.alloc (.cells (entC e) 47)).heap.size := by simp; omega
  rcases ho.row with ⟨rfl, rfl⟩ | ⟨g, cap, cur, rfl, hBg, hlt, hg, hn, hm, hs, hc⟩
  · clear ho HE
    go_enter Try.func29, Try.ntmps29
    go_wp2_with (at_builtin; refine wpList_append_ents _ rfl _ _ rfl B _ [] rfl HO.out _ [e] rfl HR.out (by simp) hsz ?_)
    intro v1 W1 ho1 hb1
    have HO1 := hide ho1
    have HB1 := hide ((HB0.out _).trans hb1)
    clear ho1 hb1
    go_wp2
    go_ret
    exact ⟨_, rfl, HO1.out, HB1.out⟩
  · have hmi : (cap : Int) ≤ 9223372036854775807 := by unfold maxLen at hm; omega
    have hni : (l.length : Int) ≤ (cap : Int) := by omega
    clear ho HE hc hg hs hm
    by_cases hcl : cap = l.length
    all_goals
      go_enter Try.func29, Try.ntmps29
      go_wp2_with (at_builtin; refine wpList_append_ents _ rfl _ _ rfl B _ l rfl HO.out _ [e] rfl HR.out (by simp; omega) hsz ?_)
      intro v1 W1 ho1 hb1
      have HO1 := hide ho1
      have HB1 := hide ((HB0.out _).trans hb1)
      clear ho1 hb1
      go_wp2
      go_ret
      exact ⟨_, rfl, HO1.out, HB1.out⟩

theorem ov_ent (w : World) (g N kA kB : Nat) (hne : N ≠ g) (la ca lb cb o : Nat) (hsa : w.shape? N = some (47, kA)) (hsb : w.shape? g = some (47, kB)) (hkB : kB ≠ 0) (hfa : ∀ k, w.frozen? ⟨N, k, none⟩ = false) :
    (callFunc 46 #[.slice (some ⟨N, 0, none⟩) la ca, .slice (some ⟨g, o, none⟩) lb cb]).run Try.prog w = .ok (.value (.bool false)) w := by
  rw [run_callFunc_extern Try.func46 (by kernel_rfl) (by kernel_rfl) (by kernel_rfl) (e := Extern.SlicesOverlaps.overlaps #[25, 25] #[4]) (by kernel_rfl),
    Lib.run_overlaps_apart w 25 4 47 Try.underlying25 3 Try.sizeOf47 ⟨N, 0, none⟩ ⟨g, o, none⟩ la ca lb cb hne _ _ kA kB hsa hsb hkB (hfa 0) (hfa kA)]
  rfl

theorem size_ent : (Try.prog.info? 47).map (·.size) = some 3 := by
  obtain ⟨i0, hi, hz0, hz1, hz2⟩ := info_parts info_ent
  rw [hi]
  simp [hz1]

set_option maxRecDepth 100000 in
set_option maxHeartbeats 4000000 in
theorem insertE_room (g cap : Nat) (l : List Ent) (B : Nat) (w : World) (ho : OwnE w B (.slice (some ⟨g, 0, none⟩) l.length cap) l) (hB : B ≤ w.heap.size) (i : Nat) (hi : i < l.length) (hroom : l.length + 1 ≤ cap) (e : Ent) (I : Int) (hI : I = (i : Nat)) (N : Nat) (hN : N = w.heap.size) :
    Calls Try.prog 29 #[.slice (some ⟨g, 0, none⟩) l.length cap, .int .i64 I, .slice (some ⟨N, 0, none⟩) 1 1] (w.alloc (.cells (entC e) 47)) fun x w' => InsE w B (l.take i ++ (e :: l.drop i)) x w' := by
  subst hI
  rcases ho.row with ⟨h1, -⟩ | ⟨g', cap', cur, h1, hBg, hlt, hg, hn, hm, hs, hc⟩
  · cases h1
  injection h1 with h1 _ h3
  injection h1 with h1
  injection h1 with h1
  subst h1 h3
  clear ho
  have hv : (w.alloc (.cells (entC e) 47)).heap[N]? = some (.cells (entC e) 47 (0, 0)) := by rw [hN]; exact heap_alloc_new w _
  have hg0 : (w.alloc (.cells (entC e) 47)).heap[g]? = some (.cells cur 47 (0, 0)) := (Below.heap_alloc _ _ _ hlt).trans hg
  have HB0 : Hid (Below B w (w.alloc (.cells (entC e) 47))) := (Below.refl _ _).alloc hB _
  generalize w.alloc (.cells (entC e) 47) = W at *
  have hne : N ≠ g := by omega
  have hm' : (cap : Int) ≤ 9223372036854775807 := by unfold maxLen at hm; omega
  have hfz : ∀ (j : Nat), W.frozen? ⟨g, j, none⟩ = false := fun j => frozen_of_row W g j _ _ hg0
  have hov : ∀ la ca lb cb o, (callFunc 46 #[.slice (some ⟨N, 0, none⟩) la ca, .slice (some ⟨g, o, none⟩) lb cb]).run Try.prog W = .ok (.value (.bool false)) W := fun la ca lb cb o =>
    ov_ent W g N 3 (cap * 3) hne la ca lb cb o (by simp [World.shape?, hv, entC]) (by simp [World.shape?, hg0, hs]) (by omega) (fun k => frozen_of_row W N k _ _ hv)
  have hdl : (entCells (l.drop i)).length = (l.length - i) * 3 := by rw [entCells_length, List.length_drop]
  have hsome : ∀ j, j < (l.length + 1) * 3 → (W.cell? ⟨g, j, none⟩).isSome = true := fun j hj => by
    rw [cell_of_row W g j _ _ _ hg0, Array.getElem?_eq_getElem (by omega)]
    rfl
  have hcp1 : ∀ W', (∀ x, W'.cell? x = W.cell? x) → (∀ x, W'.frozen? x = W.frozen? x) → ∀ ty dc sc, (Builtin.copy_ #[25, 25] ty #[.slice (some ⟨g, (i + 1) * 3, none⟩) (l.length - i) dc, .slice (some ⟨g, i * 3, none⟩) (l.length + 1 - i) sc]).run Try.prog W' = .ok (goInt (Nat.min (l.length + 1 - i) (l.length - i))) (W'.setCells g ((i + 1) * 3) (entCells (l.drop i))) := fun W' hWc hWf ty dc sc =>
    run_copy_many W' _ _ ty 47 3 g ((i + 1) * 3) (l.length - i) dc ⟨g, i * 3, none⟩ (l.length + 1 - i) sc (entCells (l.drop i)) Try.underlying25 size_ent (by rw [hdl]; simp only [Nat.min_def]; split <;> omega)
      (fun j v hj => by
        have hj' : j < (l.length - i) * 3 := by rw [← hdl]; exact (List.getElem?_eq_some_iff.1 hj).1
        rw [Addr.add_lit, hWc, cell_of_row W g _ _ _ _ hg0, hc _ (by omega)]
        rw [entCells_drop, List.getElem?_drop] at hj
        exact hj)
      (fun j hj => by rw [hWc]; exact hsome _ (by omega)) (fun j hj => by rw [hWf]; exact hfz _) (entCells_one _)
  obtain ⟨W1, hW1⟩ : ∃ W1, W1 = W.drew.setCells g ((i + 1) * 3) (entCells (l.drop i)) := ⟨_, rfl⟩
  have hg1 : W1.heap[g]? = some (.cells (layC cur ((i + 1) * 3) (entCells (l.drop i))) 47 (0, 0)) := by rw [hW1]; exact heap_setCells g _ _ _ W.drew cur hg0
  have hv1 : W1.heap[N]? = some (.cells (entC e) 47 (0, 0)) := by rw [hW1, setCells_other g _ _ _ N hne]; exact hv
  have hl3 : (entCells [e]).length = 3 := entCells_length [e]
  have hcp2 : ∀ W', (∀ x, W'.cell? x = W1.cell? x) → (∀ x, W'.frozen? x = W1.frozen? x) → ∀ ty dc, (Builtin.copy_ #[25, 25] ty #[.slice (some ⟨g, i * 3, none⟩) (l.length + 1 - i) dc, .slice (some ⟨N, 0, none⟩) 1 1]).run Try.prog W' = .ok (goInt (Nat.min 1 (l.length + 1 - i))) (W'.setCells g (i * 3) (entCells [e])) := fun W' hWc hWf ty dc =>
    run_copy_many W' _ _ ty 47 3 g (i * 3) (l.length + 1 - i) dc ⟨N, 0, none⟩ 1 1 (entCells [e]) Try.underlying25 size_ent (by rw [hl3]; simp only [Nat.min_def]; split <;> omega)
      (fun j v hj => by
        rw [Addr.add_lit, hWc, Nat.zero_add, cell_of_row W1 N _ _ _ _ hv1]
        have : (entCells [e])[j]? = (entC e)[j]? := by
          have hj' : j < 3 := by rw [← hl3]; exact (List.getElem?_eq_some_iff.1 hj).1
          have := entCells_get [e] 0 j (by simp) hj'
          rwa [Nat.zero_mul, Nat.zero_add] at this
        rw [← this]
        exact hj)
      (fun j hj => by
        rw [hWc, cell_of_row W1 g _ _ _ _ hg1, Array.getElem?_eq_getElem (by rw [layC_size]; omega)]
        rfl) (fun j hj => by rw [hWf]; exact frozen_of_row W1 g _ _ _ hg1) (entCells_one _)
  have HFIN : Hid (InsE w B (l.take i ++ (e :: l.drop i)) (.returned (.slice (some ⟨g, 0, none⟩) (l.length + 1) cap)) (W1.setCells g (i * 3) (entCells [e]))) := hide (by
    refine ⟨_, rfl, OwnE.ofRow (ins_length l i (by omega) e).symm hBg (heap_setCells g _ _ _ W1 _ hg1) (by rw [ins_length l i (by omega) e]; exact hroom) hm (by rw [layC_size, layC_size]; exact hs) (fun j hj => ?_), ?_⟩
    · rw [ins_length l i (by omega) e] at hj
      refine ins_cells3 l i (by omega) e (fun j => (layC (layC cur ((i + 1) * 3) (entCells (l.drop i))) (i * 3) (entCells [e]))[j]?) (fun k hk => ?_) (fun k hk => ?_) (fun k hk => ?_) j hj
      · show (layC (layC cur ((i + 1) * 3) (entCells (l.drop i))) (i * 3) (entCells [e]))[k]? = _
        rw [layC_get _ _ _ _ (by rw [layC_size]; omega), if_neg (by omega), layC_get _ _ _ _ (by omega), if_neg (by omega)]
        exact hc k (by omega)
      · show (layC (layC cur ((i + 1) * 3) (entCells (l.drop i))) (i * 3) (entCells [e]))[i * 3 + k]? = _
        rw [layC_get _ _ _ _ (by rw [layC_size]; omega), if_pos (by omega), Nat.add_sub_cancel_left]
      · show (layC (layC cur ((i + 1) * 3) (entCells (l.drop i))) (i * 3) (entCells [e]))[(i + 1) * 3 + k]? = _
        rw [layC_get _ _ _ _ (by rw [layC_size]; omega), if_neg (by omega), layC_get _ _ _ _ (by omega), if_pos (by omega), Nat.add_sub_cancel_left]
    · rw [hW1]
      exact belowCells hBg _ _ _ (belowCells hBg _ _ _ (belowDrew HB0.out)))
  have hcq1 := fun ty dc sc => hcp1 W.drew (fun _ => rfl) (fun _ => rfl) ty dc sc
  have hcq2 := fun ty dc => hcp2 W1 (fun _ => rfl) (fun _ => rfl) ty dc
  clear hcp1 hcp2
  rw [hW1] at HFIN hcq2
  clear hW1 hg1 hv1 hc hs hg hg0 hv hsome hfz hm HB0 hdl hl3 hN
  have mixed : Try.prog.follows .mixedOrders = true := by kernel_rfl
  have hz2 : ¬ ((i : Int) = (l.length : Int)) := by omega
  have hz3 : ((i : Int) == (l.length : Int)) = false := beq_eq_false_iff_ne.2 hz2
  have hw1 : IntKind.i64.wrap ((i : Int) + 1) = (i : Int) + 1 := by rw [IntKind.wrap_i64]; omega
  have hw2 : IntKind.i64.wrap ((l.length : Int) + 1) = (l.length : Int) + 1 := by rw [IntKind.wrap_i64]; omega
  have hb1 : (0 : Int) ≤ (i : Int) + 1 := by omega
  have hin : i ≤ l.length := by omega
  have hini : (i : Int) ≤ (l.length : Int) := by omega
  have htn : ((i : Int) + 1).toNat = i + 1 := by omega
  have htl : ((l.length : Int) + 1).toNat = l.length + 1 := by omega
  have hb2 : ¬ (cap = i + 1) := by omega
  have hb3 : (i : Int) ≤ (l.length : Int) + 1 := by omega
  have hb4 : ¬ (cap = i) := by omega
  have hb5 : ¬ ((cap : Int) < (l.length : Int) + 1) := by omega
  have hb6 : (l.length : Int) + 1 ≤ (cap : Int) := by omega
  have hb7 : (i : Int) + 1 ≤ (l.length : Int) + 1 := by omega
  generalize entCells (l.drop i) = dcs at *
  generalize entCells [e] = ecs at *
  generalize l.take i ++ (e :: l.drop i) = LL at *
  go_enter Try.func29, Try.ntmps29
  go_wp2_with (simp only [hov])
  go_region_law_o (refine step_copy_runI rfl _ _ 25 25 rfl _ _ (by simp [Act.eval, Act.put]) (by simp [Act.eval, Act.put]) (hcq1 _ _ _) ?_)
  go_wp2_with (at_builtin; refine wpList_copy_runI _ rfl _ _ 25 25 rfl _ _ rfl rfl (hcq2 _ _) ?_)
  go_wp2
  go_ret
  exact HFIN.out

end Go.Proofs.Ytanmjihiceibbab

/- Contract over entries of slices.Insert: where there is no room. -/
namespace Go.Proofs.Ytanmjihiceibbab
open Go.RowKit

set_option maxRecDepth 100000 in
set_option maxHeartbeats 4000000 in
theorem insertE_grow (g cap : Nat) (l : List Ent) (B : Nat) (w : World) (ho : OwnE w B (.slice (some ⟨g, 0, none⟩) l.length cap) l) (hB : B ≤ w.heap.size) (i : Nat) (hi : i < l.length) (hroom : cap < l.length + 1) (hlim : l.length ≤ 100000) (e : Ent) (I : Int) (hI : I = (i : Nat)) (N : Nat) (hN : N = w.heap.size) :
    Calls Try.prog 29 #[.slice (some ⟨g, 0, none⟩) l.length cap, .int .i64 I, .slice (some ⟨N, 0, none⟩) 1 1] (w.alloc (.cells (entC e) 47)) fun x w' => InsE w B (l.take i ++ (e :: l.drop i)) x w' := by
  subst hI
  rcases ho.row with ⟨h1, -⟩ | ⟨g', cap', cur, h1, hBg, hlt, hg, hn, hm, hs, hc⟩
  · cases h1
  injection h1 with h1 _ h3
  injection h1 with h1
  injection h1 with h1
  subst h1 h3
  clear ho
  obtain ⟨i0, hi0, hz0, hz1, hz2⟩ := info_parts info_ent
  have hv : (w.alloc (.cells (entC e) 47)).heap[N]? = some (.cells (entC e) 47 (0, 0)) := by rw [hN]; exact heap_alloc_new w _
  have hg0 : (w.alloc (.cells (entC e) 47)).heap[g]? = some (.cells cur 47 (0, 0)) := (Below.heap_alloc _ _ _ hlt).trans hg
  have HB0 : Hid (Below B w (w.alloc (.cells (entC e) 47))) := (Below.refl _ _).alloc hB _
  have hszW : (w.alloc (.cells (entC e) 47)).heap.size = w.heap.size + 1 := by simp
  generalize w.alloc (.cells (entC e) 47) = W at *
  have hl3 : (entCells [e]).length = 3 := entCells_length [e]
  have hdl : (entCells (l.drop i)).length = (l.length - i) * 3 := by rw [entCells_length, List.length_drop]
  have htl : ((entCells l).take (i * 3)).length = i * 3 := by rw [List.length_take, entCells_length]; omega
  have hold : (Builtin.firstCells i0.size i (.slice (some ⟨g, 0, none⟩) i cap)).run Try.prog W.drew = .ok ((entCells l).take (i * 3)).toArray W.drew := by
    rw [hz1]
    exact run_firstCells_some W.drew 3 i ⟨g, 0, none⟩ i cap ((entCells l).take (i * 3)) htl (fun j v hj => by
      have hj' : j < i * 3 := by rw [← htl]; exact (List.getElem?_eq_some_iff.1 hj).1
      rw [List.getElem?_take_of_lt hj'] at hj
      rw [Addr.add_lit, Nat.zero_add, cell_of_row W.drew g j _ _ _ hg0, hc j (by omega)]
      exact hj)
  have hik : i + (l.length + 1 - i) = l.length + 1 := by omega
  have hkk : (l.length : Int) + 1 - (i : Int) = ((l.length + 1 - i : Nat) : Int) := by omega
  obtain ⟨G, hG⟩ : ∃ G, G = grownCap W (l.length + 1) cap 47 := ⟨_, rfl⟩
  obtain ⟨ROW, hROW⟩ : ∃ ROW, ROW = ((entCells l).take (i * 3)).toArray ++ Builtin.zeroCells (Value.agg #[.int .i64 0, .int .i64 0, .int .i64 0]).cells (l.length + 1 - i) ++ Builtin.zeroCells (Value.agg #[.int .i64 0, .int .i64 0, .int .i64 0]).cells (G - (l.length + 1)) := ⟨_, rfl⟩
  have hrz : ∀ ty, (Builtin.append_ #[25, 3] ty #[.slice (some ⟨g, 0, none⟩) i cap, .int .i64 ((l.length : Int) + 1 - (i : Int))]).run Try.prog W = .ok (.slice (some ⟨W.heap.size, 0, none⟩) (l.length + 1) G) ((W.alloc (.cells ROW 47)).drew) := fun ty => by
    have h := Lib.run_append_grow_zeros W 25 3 ty 47 i0 _ .i64 .i64 Try.underlying25 Try.underlying3 hi0 hz0 (some ⟨g, 0, none⟩) i cap _ hold (l.length + 1 - i) (by omega) (by omega) (by omega) (by omega) (by rw [hz2]; omega) (by rw [hz2, hik]; exact growslice_fits_wide hroom (by omega))
    rw [hik, ← hG, ← hROW, ← hkk] at h
    exact h
  have hGn : l.length + 1 ≤ G := by rw [hG]; exact grownCap_ge W _ _ _
  have hGm : G ≤ maxLen := by rw [hG]; exact grownCap_le_maxLen W (l.length + 1) cap 47 (by unfold maxLen; omega)
  have hz3s : ∀ n, (Builtin.zeroCells (Value.agg #[.int .i64 0, .int .i64 0, .int .i64 0]).cells n).size = n * 3 := fun n => by
    rw [← Array.length_toList, zeroCells3, zeros3_length]
  have hRs : ROW.size = G * 3 := by
    rw [hROW, Array.size_append, Array.size_append, hz3s, hz3s, List.size_toArray, htl]
    omega
  have hRc : ∀ j, j < i * 3 → ROW[j]? = (entCells l)[j]? := fun j hj => by
    rw [hROW, Array.append_assoc, Array.getElem?_append_left (by rw [List.size_toArray, htl]; exact hj), List.getElem?_toArray, List.getElem?_take_of_lt hj]
  have hrow : (W.alloc (.cells ROW 47)).drew.heap[W.heap.size]? = some (.cells ROW 47 (0, 0)) := heap_alloc_new W _
  have hvW : (W.alloc (.cells ROW 47)).drew.heap[N]? = some (.cells (entC e) 47 (0, 0)) := (Below.heap_alloc W _ N (by omega)).trans hv
  have hgW : (W.alloc (.cells ROW 47)).drew.heap[g]? = some (.cells cur 47 (0, 0)) := (Below.heap_alloc W _ g (by omega)).trans hg0
  have HB1 : Hid (Below B w (W.alloc (.cells ROW 47)).drew) := hide (belowDrew (HB0.out.alloc (by omega) _))
  have hBM : B ≤ W.heap.size := by omega
  have hNM : N ≠ W.heap.size := by omega
  have hgM : g ≠ W.heap.size := by omega
  obtain ⟨W2, hW2⟩ : ∃ W2, W2 = (W.alloc (.cells ROW 47)).drew := ⟨_, rfl⟩
  rw [← hW2] at hrow hvW hgW HB1
  have hcq1 : ∀ ty dc, (Builtin.copy_ #[25, 25] ty #[.slice (some ⟨W.heap.size, i * 3, none⟩) (l.length + 1 - i) dc, .slice (some ⟨N, 0, none⟩) 1 1]).run Try.prog W2 = .ok (goInt (Nat.min 1 (l.length + 1 - i))) (W2.setCells W.heap.size (i * 3) (entCells [e])) := fun ty dc =>
    run_copy_many W2 _ _ ty 47 3 W.heap.size (i * 3) (l.length + 1 - i) dc ⟨N, 0, none⟩ 1 1 (entCells [e]) Try.underlying25 size_ent (by rw [hl3]; simp only [Nat.min_def]; split <;> omega)
      (fun j v hj => by
        rw [Addr.add_lit, Nat.zero_add, cell_of_row W2 N _ _ _ _ hvW]
        have : (entCells [e])[j]? = (entC e)[j]? := by
          have hj' : j < 3 := by rw [← hl3]; exact (List.getElem?_eq_some_iff.1 hj).1
          have := entCells_get [e] 0 j (by simp) hj'
          rwa [Nat.zero_mul, Nat.zero_add] at this
        rw [← this]
        exact hj)
      (fun j hj => by
        rw [cell_of_row W2 _ _ _ _ _ hrow, Array.getElem?_eq_getElem (by omega)]
        rfl) (fun j hj => frozen_of_row W2 _ _ _ _ hrow) (entCells_one _)
  obtain ⟨W3, hW3⟩ : ∃ W3, W3 = (W2.setCells W.heap.size (i * 3) (entCells [e])).drew := ⟨_, rfl⟩
  have hrow3 : W3.heap[W.heap.size]? = some (.cells (layC ROW (i * 3) (entCells [e])) 47 (0, 0)) := by rw [hW3]; exact heap_setCells _ _ _ _ W2 ROW hrow
  have hg3 : W3.heap[g]? = some (.cells cur 47 (0, 0)) := by
    rw [hW3]
    exact (setCells_other W.heap.size _ _ W2 g hgM).trans hgW
  have HB3 : Hid (Below B w W3) := hide (by rw [hW3]; exact belowDrew (belowCells hBM _ _ _ HB1.out))
  have hcq2 : ∀ ty dc sc, (Builtin.copy_ #[25, 25] ty #[.slice (some ⟨W.heap.size, (i + 1) * 3, none⟩) (l.length - i) dc, .slice (some ⟨g, i * 3, none⟩) (l.length - i) sc]).run Try.prog W3 = .ok (goInt (Nat.min (l.length - i) (l.length - i))) (W3.setCells W.heap.size ((i + 1) * 3) (entCells (l.drop i))) := fun ty dc sc =>
    run_copy_many W3 _ _ ty 47 3 W.heap.size ((i + 1) * 3) (l.length - i) dc ⟨g, i * 3, none⟩ (l.length - i) sc (entCells (l.drop i)) Try.underlying25 size_ent (by rw [hdl]; simp only [Nat.min_def]; split <;> omega)
      (fun j v hj => by
        have hj' : j < (l.length - i) * 3 := by rw [← hdl]; exact (List.getElem?_eq_some_iff.1 hj).1
        rw [Addr.add_lit, cell_of_row W3 g _ _ _ _ hg3, hc _ (by omega)]
        rw [entCells_drop, List.getElem?_drop] at hj
        exact hj)
      (fun j hj => by
        rw [cell_of_row W3 _ _ _ _ _ hrow3, Array.getElem?_eq_getElem (by rw [layC_size]; omega)]
        rfl) (fun j hj => frozen_of_row W3 _ _ _ _ hrow3) (entCells_one _)
  have HFIN : Hid (InsE w B (l.take i ++ (e :: l.drop i)) (.returned (.slice (some ⟨W.heap.size, 0, none⟩) (l.length + 1) G)) (W3.setCells W.heap.size ((i + 1) * 3) (entCells (l.drop i)))) := hide (by
    refine ⟨_, rfl, OwnE.ofRow (ins_length l i (by omega) e).symm hBM (heap_setCells _ _ _ _ W3 _ hrow3) (by rw [ins_length l i (by omega) e]; exact hGn) hGm (by rw [layC_size, layC_size]; exact hRs) (fun j hj => ?_), ?_⟩
    · rw [ins_length l i (by omega) e] at hj
      refine ins_cells3 l i (by omega) e (fun j => (layC (layC ROW (i * 3) (entCells [e])) ((i + 1) * 3) (entCells (l.drop i)))[j]?) (fun k hk => ?_) (fun k hk => ?_) (fun k hk => ?_) j hj
      · show (layC (layC ROW (i * 3) (entCells [e])) ((i + 1) * 3) (entCells (l.drop i)))[k]? = _
        rw [layC_get _ _ _ _ (by rw [layC_size]; omega), if_neg (by omega), layC_get _ _ _ _ (by omega), if_neg (by omega)]
        exact hRc k hk
      · show (layC (layC ROW (i * 3) (entCells [e])) ((i + 1) * 3) (entCells (l.drop i)))[i * 3 + k]? = _
        rw [layC_get _ _ _ _ (by rw [layC_size]; omega), if_neg (by omega), layC_get _ _ _ _ (by omega), if_pos (by omega), Nat.add_sub_cancel_left]
      · show (layC (layC ROW (i * 3) (entCells [e])) ((i + 1) * 3) (entCells (l.drop i)))[(i + 1) * 3 + k]? = _
        rw [layC_get _ _ _ _ (by rw [layC_size]; omega), if_pos (by omega), Nat.add_sub_cancel_left]
    · exact belowCells hBM _ _ _ HB3.out)
  rw [hW3] at HFIN hcq2
  rw [hW2] at HFIN hcq2 hcq1
  clear hW3 hW2 hg3 hrow3 hrow hvW hgW hRs hRc hz3s HB3 HB1 hold hROW hc hs hg hg0 hv hm HB0 hdl hl3 htl hz2 hz1 hz0 hi0 hG hNM hgM hGm hkk hik hszW hN hBM
  have mixed : Try.prog.follows .mixedOrders = true := by kernel_rfl
  have hz2 : ¬ ((i : Int) = (l.length : Int)) := by omega
  have hz3 : ((i : Int) == (l.length : Int)) = false := beq_eq_false_iff_ne.2 hz2
  have hw1 : IntKind.i64.wrap ((i : Int) + 1) = (i : Int) + 1 := by rw [IntKind.wrap_i64]; omega
  have hw2 : IntKind.i64.wrap ((l.length : Int) + 1) = (l.length : Int) + 1 := by rw [IntKind.wrap_i64]; omega
  have hb1 : (0 : Int) ≤ (i : Int) + 1 := by omega
  have hin : i ≤ l.length := by omega
  have hini : (i : Int) ≤ (l.length : Int) := by omega
  have hinc : (i : Int) ≤ (cap : Int) := by omega
  have hicc : i ≤ cap := by omega
  have htn : ((i : Int) + 1).toNat = i + 1 := by omega
  have htl : ((l.length : Int) + 1).toNat = l.length + 1 := by omega
  have hb2 : ¬ (G = i + 1) := by omega
  have hb3 : (i : Int) ≤ (l.length : Int) + 1 := by omega
  have hb4 : ¬ (cap = i) := by omega
  have hb4' : ¬ (G = i) := by omega
  have hb5 : (cap : Int) < (l.length : Int) + 1 := by omega
  have hb7 : (i : Int) + 1 ≤ (l.length : Int) + 1 := by omega
  have hlb : (l.length : Int) ≤ 100000 := by omega
  have hw3 : IntKind.i64.wrap ((l.length : Int) + 1 - (i : Int)) = (l.length : Int) + 1 - (i : Int) := by rw [IntKind.wrap_i64]; omega
  clear hB hBg hlt hlim
  generalize entCells (l.drop i) = dcs at *
  generalize entCells [e] = ecs at *
  generalize l.take i ++ (e :: l.drop i) = LL at *
  go_enter Try.func29, Try.ntmps29
  go_wp2_with (first
    | (at_builtin; refine Lib.wpList_append_run _ rfl _ _ _ _ rfl _ _ rfl rfl _ _ (hrz _) ?_)
    | (at_builtin; refine wpList_copy_runI _ rfl _ _ 25 25 rfl _ _ rfl rfl (hcq1 _ _) ?_))
  go_region_law_o (refine step_copy_runI rfl _ _ 25 25 rfl _ _ (by simp [Act.eval, Act.put]) (by simp [Act.eval, Act.put]) (hcq2 _ _ _) ?_)
  go_wp2
  go_ret
  exact HFIN.out

theorem insertE_any (v : Value) (l : List Ent) (B : Nat) (w : World) (ho : OwnE w B v l) (hB : B ≤ w.heap.size) (hlim : l.length ≤ 100000) (i : Nat) (hi : i ≤ l.length) (e : Ent) (he : EntI e) (I : Int) (hI : I = (i : Nat)) (N : Nat) (hN : N = w.heap.size) :
    Calls Try.prog 29 #[v, .int .i64 I, .slice (some ⟨N, 0, none⟩) 1 1] (w.alloc (.cells (entC e) 47)) fun x w' => InsE w B (l.take i ++ (e :: l.drop i)) x w' := by
  by_cases h : i = l.length
  · subst h
    exact insertE_end v l B w ho hB hlim e he I hI N hN
  · rcases ho.row with ⟨-, rfl⟩ | ⟨g, cap, cur, rfl, -⟩
    · exact absurd (by simpa using hi) (by simpa using h)
    · by_cases hr : l.length + 1 ≤ cap
      · exact insertE_room g cap l B w ho hB i (by omega) hr e I hI N hN
      · exact insertE_grow g cap l B w ho hB i (by omega) (by omega) hlim e I hI N hN

end Go.Proofs.Ytanmjihiceibbab

/- Contracts of the document's answer for layer num, its readers: read, Get, GetSigned, Fixed, Zig, Zag. -/
namespace Go.Proofs.Ytanmjihiceibbab
open Go.RowKit

theorem zigzag_neg' (n : Int) (h : ¬ 0 ≤ n) : ((Lib.zigzag n : Nat) : Int) = -(n + 1) * 2 + 1 := by
  unfold Lib.zigzag
  rw [if_neg h]
  omega

/-- 128^k modulo 2^64, as read reckons it. -/
def one128 (k : Nat) : Int := ((128 ^ k % 18446744073709551616 : Nat) : Int)

theorem one_step (k : Nat) : (one128 k * 128) % 18446744073709551616 = one128 (k + 1) := by
  unfold one128
  rw [Nat.pow_succ]
  omega

theorem read_step (l : List UInt8) (k : Nat) (hk : k < l.length) (h10 : k < 10) (h9 : k = 9 → ((l.getD k 0).toNat : Int) % 128 ≤ 1) :
    (((val (l.take k) : Nat) : Int) + (((l.getD k 0).toNat : Int) % 128 * one128 k) % 18446744073709551616) % 18446744073709551616 = ((val (l.take (k + 1)) : Nat) : Int) := by
  have hv := val_take_lt l k (by omega)
  have ho : one128 k = ((128 ^ k : Nat) : Int) := by
    unfold one128
    have : 128 ^ k ≤ 128 ^ 9 := Nat.pow_le_pow_right (by decide) (by omega)
    have e9 : 128 ^ 9 = 9223372036854775808 := by decide
    rw [Nat.mod_eq_of_lt (by omega)]
  rw [ho, val_take l k hk]
  have e : (((l.getD k 0).toNat : Int) % 128 * ((128 ^ k : Nat) : Int)) = (((l.getD k 0).toNat % 128 * 128 ^ k : Nat) : Int) := by
    rw [Int.natCast_mul]
    simp
  rw [e]
  have hb : (l.getD k 0).toNat % 128 * 128 ^ k < 9223372036854775809 := by
    by_cases hk9 : k = 9
    · have := h9 hk9
      subst hk9
      have e9 : 128 ^ 9 = 9223372036854775808 := by decide
      rw [e9]
      omega
    · have hp : 128 ^ k ≤ 128 ^ 8 := Nat.pow_le_pow_right (by decide) (by omega)
      have hm : (l.getD k 0).toNat % 128 ≤ 127 := by omega
      have := Nat.mul_le_mul hm hp
      have e8 : 127 * 128 ^ 8 < 9223372036854775809 := by decide
      omega
  have hv2 : val (l.take k) < 9223372036854775808 := by
    have : 128 ^ k ≤ 128 ^ 9 := Nat.pow_le_pow_right (by decide) (by omega)
    have e9 : 128 ^ 9 = 9223372036854775808 := by decide
    omega
  omega

/-- The number of the bytes from the k-th on, of the first eight. -/
def leTail (l : List UInt8) (k : Nat) : Nat := Lib.leNat ((l.take 8).drop k)

theorem leTail_out (l : List UInt8) (k : Nat) (h : l.length ≤ k) : leTail l k = leTail l (k + 1) := by
  unfold leTail
  rw [List.drop_of_length_le (by simp; omega), List.drop_of_length_le (by simp; omega)]

theorem leTail_in (l : List UInt8) (k : Nat) (h : k < l.length) (h8 : k < 8) : leTail l k = (l.getD k 0).toNat + 256 * leTail l (k + 1) := by
  unfold leTail
  have hk : k < (l.take 8).length := by simp; omega
  rw [List.drop_eq_getElem_cons hk, Lib.leNat]
  simp [List.getD, h]

theorem leTail_lt (l : List UInt8) (k : Nat) (h8 : k ≤ 8) : leTail l k < 256 ^ (8 - k) := by
  unfold leTail
  have h := leNat_lt ((l.take 8).drop k)
  have h2 : ((l.take 8).drop k).length ≤ 8 - k := by simp; omega
  have h3 : 256 ^ ((l.take 8).drop k).length ≤ 256 ^ (8 - k) := Nat.pow_le_pow_right (by decide) h2
  omega

theorem fixed_step (l : List UInt8) (k : Nat) (h : k < l.length) (h8 : k < 8) :
    ((((leTail l (k + 1) : Nat) : Int) * 256) % 18446744073709551616 + ((l.getD k 0).toNat : Int)) % 18446744073709551616 = ((leTail l k : Nat) : Int) := by
  have h1 := leTail_in l k h h8
  have h2 := leTail_lt l (k + 1) (by omega)
  have h3 : 256 ^ (8 - (k + 1)) ≤ 256 ^ 7 := Nat.pow_le_pow_right (by decide) (by omega)
  have e7 : 256 ^ 7 = 72057594037927936 := by decide
  have hb := (l.getD k 0).toNat_lt
  omega

end Go.Proofs.Ytanmjihiceibbab

/- Contracts of the document's answer for layer num, what it puts: groups, Put, PutSigned, Fix. -/
namespace Go.Proofs.Ytanmjihiceibbab
open Go.RowKit

end Go.Proofs.Ytanmjihiceibbab

/- Contracts of ferrymanref04: cut, find, without, with, pairs. -/
namespace Go.Proofs.Ytanmjihiceibbab
open Go.RowKit

end Go.Proofs.Ytanmjihiceibbab

/- Contract of ferrymanref04: Fits. -/
namespace Go.Proofs.Ytanmjihiceibbab
open Go.RowKit

end Go.Proofs.Ytanmjihiceibbab

/- Contracts of ferrymanref05: PutOp, GetOp. -/
namespace Go.Proofs.Ytanmjihiceibbab
open Go.RowKit

/-- What is put: the bytes, and no error; or what was there, and ErrArg. -/
def Putted (w : World) (l : List UInt8) (o : Opn) (e : Ending) (w' : World) : Prop :=
  ∃ v', e = .returned (.tuple #[v', .int .i64 (if FitsO o then 0 else 1)]) ∧ Own w' w.heap.size v' (if FitsO o then l ++ putOpL o else l) ∧ Below w.heap.size w w'

theorem putOf_small {l : List UInt8} {n : Int} (h0 : 0 ≤ n) (h1 : n < 4611686018427387904) : putOf l n = l ++ Lib.uvarint n.toNat := if_pos ⟨h0, h1⟩

theorem uv10 {n : Int} (h : I64 n) : (Lib.uvarint (Lib.zigzag n)).length ≤ 10 := Lib.uvarint_length64 (zig_lt h)

theorem uv10' {n : Nat} (h : n < 4611686018427387904) : (Lib.uvarint n).length ≤ 10 := Lib.uvarint_length64 (by omega)

theorem two_new (w : World) (X Y : Obj) : ((w.alloc X).alloc Y).heap[w.heap.size + 1]? = some Y := by
  have h := heap_alloc_new (w.alloc X) Y
  have e : (w.alloc X).heap.size = w.heap.size + 1 := by simp
  rwa [e] at h

/-- What is got: the operation and how many bytes. -/
def Gotten (w : World) (l : List UInt8) (e : Ending) (w' : World) : Prop :=
  e = .returned (.tuple #[opV (getOpL l).1, .int .i64 ((getOpL l).2 : Nat)]) ∧ Below w.heap.size w w'

end Go.Proofs.Ytanmjihiceibbab

/- Contracts of ferrymanref06: Fits, Upgrade, has. -/
namespace Go.Proofs.Ytanmjihiceibbab
open Go.RowKit

/-- A record as a value. -/
def recV (r : Rec) : Value := .agg #[.int .i64 r.idx, .int .i64 r.proc, .int .i64 r.seq, .int .i64 r.op.code, .int .i64 r.op.a, .int .i64 r.op.b, .int .i64 r.resp]

/-- A record's cells. -/
def recC (r : Rec) : Array Value := #[.int .i64 r.idx, .int .i64 r.proc, .int .i64 r.seq, .int .i64 r.op.code, .int .i64 r.op.a, .int .i64 r.op.b, .int .i64 r.resp]

def RecOk (r : Rec) : Prop := I64 r.idx ∧ I64 r.proc ∧ I64 r.seq ∧ OpOk r.op ∧ I64 r.resp

/-- A record's box. -/
def Br (w : World) (b : Nat) (cs : Array Value) : Prop := w.heap[b]? = some (.cells cs 38 (0, 0))

theorem Br.lt {w : World} {b : Nat} {cs : Array Value} (h : Br w b cs) : b < w.heap.size := (Array.getElem?_eq_some_iff.1 h).1

theorem Br.below {w w' : World} {b B : Nat} {cs : Array Value} (h : Br w b cs) (hb : Below B w w') (hB : w.heap.size ≤ B) : Br w' b cs := (hb.block b (by have := h.lt; omega)).trans h

theorem Br.cell {w : World} {b : Nat} {cs : Array Value} (h : Br w b cs) (j : Nat) : w.cell? ⟨b, j, none⟩ = cs[j]? ∧ w.frozen? ⟨b, j, none⟩ = false := ⟨cell_of_row w b j _ _ _ h, frozen_of_row w b j _ _ h⟩

theorem hasB (v f : Nat) : (decide (hasV v f)) = ((f : Int) == 1 || (f : Int) == 2 || (f : Int) == 4 || ((f : Int) == 3 && decide ((2 : Int) ≤ v)) || ((f : Int) == 5 && (v : Int) == 3)) := by
  rw [Bool.eq_iff_iff]
  simp only [decide_eq_true_iff, Bool.or_eq_true, Bool.and_eq_true, beq_iff_eq]
  unfold hasV
  omega

end Go.Proofs.Ytanmjihiceibbab

/- Contract of snapshot: Note. -/
namespace Go.Proofs.Ytanmjihiceibbab
open Go.RowKit

set_option maxRecDepth 100000 in
set_option maxHeartbeats 1000000 in
theorem note1_any (r : Rec) (R : Nat) (e : Ent) (W : World) (hb : Br W R (recC r)) :
    Calls Try.prog 25 #[entV e, .pointer (some ⟨R, 0, none⟩)] W fun x w' => x = .returned (.bool (decide (e.proc = r.proc))) ∧ Below W.heap.size W w' := by
  have HB0 : Hid (∀ X, Below W.heap.size W (W.alloc X)) := fun X => (Below.refl _ _).alloc (Nat.le_refl _) X
  have hlt : R < W.heap.size := (Array.getElem?_eq_some_iff.1 hb).1
  have HC : Hid (∀ X, (W.alloc X).cell? ⟨R, 1, none⟩ = some (.int .i64 r.proc)) := hide (fun X => by
    rw [(HB0.out X).cell (p := ⟨R, 1, none⟩) hlt]
    exact cell_of_row W R 1 _ _ _ hb)
  obtain ⟨ep, es, er⟩ := e
  unfold entV
  simp only
  have hc := HC.out
  generalize r.proc = rp at *
  clear hb HC
  by_cases h : ep = rp
  · have HE : Hid (decide (ep = rp) = true) := decide_eq_true h
    have h' : (ep == rp) = true := beq_iff_eq.2 h
    rw [HE.out]
    clear HE h
    go_enter Try.func25, Try.ntmps25
    go_wp2
    go_ret
    exact ⟨rfl, HB0.out _⟩
  · have HE : Hid (decide (ep = rp) = false) := decide_eq_false h
    have h' : (ep == rp) = false := beq_eq_false_iff_ne.2 h
    rw [HE.out]
    clear HE h
    go_enter Try.func25, Try.ntmps25
    go_wp2
    go_ret
    exact ⟨rfl, HB0.out _⟩

set_option maxRecDepth 100000 in
set_option maxHeartbeats 1000000 in
theorem note2_any (r : Rec) (R : Nat) (e : Ent) (W : World) (hb : Br W R (recC r)) :
    Calls Try.prog 26 #[entV e, .pointer (some ⟨R, 0, none⟩)] W fun x w' => x = .returned (.bool (decide (r.proc < e.proc))) ∧ Below W.heap.size W w' := by
  have HB0 : Hid (∀ X, Below W.heap.size W (W.alloc X)) := fun X => (Below.refl _ _).alloc (Nat.le_refl _) X
  have hlt : R < W.heap.size := (Array.getElem?_eq_some_iff.1 hb).1
  have HC : Hid (∀ X, (W.alloc X).cell? ⟨R, 1, none⟩ = some (.int .i64 r.proc)) := hide (fun X => by
    rw [(HB0.out X).cell (p := ⟨R, 1, none⟩) hlt]
    exact cell_of_row W R 1 _ _ _ hb)
  obtain ⟨ep, es, er⟩ := e
  unfold entV
  simp only
  have hc := HC.out
  generalize r.proc = rp at *
  clear hb HC
  by_cases h : rp < ep
  · have HE : Hid (decide (rp < ep) = true) := decide_eq_true h
    rw [HE.out]
    clear HE
    go_enter Try.func26, Try.ntmps26
    go_wp2
    go_ret
    exact ⟨rfl, HB0.out _⟩
  · have HE : Hid (decide (rp < ep) = false) := decide_eq_false h
    rw [HE.out]
    clear HE
    go_enter Try.func26, Try.ntmps26
    go_wp2
    go_ret
    exact ⟨rfl, HB0.out _⟩

theorem placeE_any {p : Int} {t : List Ent} {k : Int} (h : FoundE (fun e => decide (p < e.proc)) t k) : (k < 0 ∧ firstG p t = t.length) ∨ (0 ≤ k ∧ k = (firstG p t : Nat)) := by
  rcases h with ⟨rfl, h⟩ | ⟨i, rfl, hi, h1, h2⟩
  · exact .inl ⟨by omega, firstG_all (fun j hj => of_decide_eq_false (h j hj))⟩
  · refine .inr ⟨by omega, ?_⟩
    rw [firstG_at hi (fun j hj => of_decide_eq_false (h1 j hj)) (of_decide_eq_true h2)]

theorem butP_mem {p : Int} {t : List Ent} {P : Ent → Prop} (h : ∀ e ∈ t, P e) : ∀ e ∈ butP p t, P e := fun e he => h e (List.mem_filter.1 he).1

set_option maxRecDepth 100000 in
set_option maxHeartbeats 4000000 in
theorem noteN_any (v : Value) (t : List Ent) (r : Rec) (w : World) (hr : RdE w v t) (hok : RecOk r) (hlim : t.length ≤ 2000) :
    Calls Try.prog 13 #[v, recV r] w fun e w' => ∃ v', e = .returned v' ∧ OwnE w' w.heap.size v' (noteL t ⟨r.proc, r.seq, r.resp⟩) ∧ Below w.heap.size w w' := by
  have hTI : ∀ e ∈ t, EntI e := hr.choose_spec.choose_spec.2.2.2.2.1
  have HTI := hide hTI
  have HX : Hid (Br (w.alloc (.cells (recC r) 38)) w.heap.size (recC r)) := hide (heap_alloc_new w _)
  have HB0 : Hid (Below w.heap.size w (w.alloc (.cells (recC r) 38))) := hide ((Below.refl _ _).alloc (Nat.le_refl _) _)
  have hsz : (w.alloc (.cells (recC r) 38)).heap.size = w.heap.size + 1 := by simp
  have HR := hide (hr.below HB0.out (Nat.le_refl _))
  have HEI : Hid (EntI ⟨r.proc, r.seq, r.resp⟩) := hide ⟨hok.2.1, hok.2.2.1, hok.2.2.2.2⟩
  have eg1 : ∀ args W, (callFunc 25 args).run Try.prog W = .ok (.enter 25 args) W := enters_of Try.func25 (by kernel_rfl) rfl
  have eg2 : ∀ args W, (callFunc 26 args).run Try.prog W = .ok (.enter 26 args) W := enters_of Try.func26 (by kernel_rfl) rfl
  have HEG1 := hide eg1
  have HEG2 := hide eg2
  have HNI : Hid (noteL t ⟨r.proc, r.seq, r.resp⟩ = (butP r.proc t).take (firstG r.proc (butP r.proc t)) ++ (⟨r.proc, r.seq, r.resp⟩ :: (butP r.proc t).drop (firstG r.proc (butP r.proc t)))) := hide (noteL_ins ⟨r.proc, r.seq, r.resp⟩ t)
  have HBT : Hid (t.filter (fun e => !decide (e.proc = r.proc)) = butP r.proc t) := hide (by unfold butP; simp)
  have HN1 := hide (fun W e h => note1_any r w.heap.size e W h)
  have HN2 := hide (fun W e h => note2_any r w.heap.size e W h)
  have HXB : Hid (∀ W, Below (w.heap.size + 1) (w.alloc (.cells (recC r) 38)) W → Br W w.heap.size (recC r)) := hide (fun W h => (h.block w.heap.size (by omega)).trans HX.out)
  have hmf : ∀ (fn : Fn) (first cap : Array Value) (w : World), (Instr.makeFunc fn first cap).run Try.prog w = .ok (.func fn first cap) w := fun _ _ _ _ => rfl
  have HCL := hide (fun W v l h h2 => cloneE_any v l W h h2)
  clear eg1 eg2 hTI hok hr
  unfold recV recC at *
  go_enter Try.func13, Try.ntmps13
  go_wp2_with fail
  refine (HCL.out _ _ t HR.out (by omega)).mono ?_
  rintro x W1 ⟨v1, rfl, ho1, hb1⟩
  rw [hsz] at ho1 hb1
  have HO1 := hide ho1
  have HB1 := hide hb1
  clear ho1 hb1
  have HDE := hide (deleteFuncE_any 25 w.heap.size (fun e => decide (e.proc = r.proc)) v1 t (w.heap.size + 1) W1 HO1.out HTI.out (by have := HB1.out.size; omega) (by omega) HEG1.out (fun W e h => HN1.out W e (HXB.out W (HB1.out.trans h))))
  go_wp2_with fail
  refine HDE.out.mono ?_
  rintro x W2 ⟨v2, rfl, ho2, hb2⟩
  rw [HBT.out] at ho2
  have HO2 := hide ho2
  have HB2 := hide (HB1.out.trans hb2)
  have HT2 := hide (butP_mem (p := r.proc) HTI.out)
  have hl2 : (butP r.proc t).length ≤ 2000 := Nat.le_trans (butP_len _ _) hlim
  clear ho2 hb2 HDE HO1 HB1 HR HTI HBT
  obtain ⟨bt, hbt⟩ : ∃ bt, bt = butP r.proc t := ⟨_, rfl⟩
  rw [← hbt] at HO2 HT2 HNI hl2
  clear hbt
  have HIX := hide (indexFuncE_any 26 w.heap.size (fun e => decide (r.proc < e.proc)) v2 bt W2 (HO2.out.rd HT2.out) HEG2.out (fun W e h => HN2.out W e (HXB.out W (HB2.out.trans (h.mono (by have := HB2.out.size; omega))))))
  obtain ⟨va, vc, hv2⟩ := HO2.out.shape
  subst hv2
  go_wp2_with fail
  refine HIX.out.mono ?_
  rintro x W3 ⟨k, rfl, hf, hb3⟩
  have HO3 := hide (HO2.out.below hb3 (Nat.le_refl _))
  have HB3 := hide (HB2.out.trans (hb3.mono (by have := HB2.out.size; omega)))
  have HX3 := hide (HXB.out W3 HB3.out)
  have HBW := hide (HB0.out.trans (HB3.out.mono (by omega)))
  have hs3 : w.heap.size + 1 ≤ W3.heap.size := by have := HB3.out.size; omega
  clear hb3 HIX HO2 HB2
  obtain ⟨q1, f1⟩ := HX3.out.cell 1
  obtain ⟨q2, f2⟩ := HX3.out.cell 2
  obtain ⟨q4, f4⟩ := HX3.out.cell 6
  have hfl := firstG_le r.proc bt
  have HIN := hide (fun I hI N hN => insertE_any (.slice va bt.length vc) bt (w.heap.size + 1) W3 HO3.out hs3 (by omega) (firstG r.proc bt) hfl ⟨r.proc, r.seq, r.resp⟩ HEI.out I hI N hN)
  rw [← HNI.out] at HIN
  unfold entC at HIN
  have hbl : (bt.length : Int) ≤ 2000 := by omega
  rcases placeE_any hf with ⟨hk, hE⟩ | ⟨hk, hE⟩
  · clear hf
    have HE2 := hide hE
    clear hE hfl hl2 hlim
    go_wp2_with fail
    refine (HIN.out _ (by rw [HE2.out]) _ rfl).mono ?_
    rintro x W4 ⟨v4, rfl, ho4, hb4⟩
    have HO4 := hide (ho4.mono (B' := w.heap.size) (by omega))
    have HB4 := hide (HBW.out.trans (hb4.mono (by omega)))
    clear ho4 hb4
    go_wp2
    go_ret
    exact ⟨_, rfl, HO4.out, HB4.out⟩
  · clear hf
    have hkn : ¬ k < 0 := by omega
    have HE2 := hide hE
    clear hE hfl hl2 hlim
    go_wp2_with fail
    refine (HIN.out _ HE2.out _ rfl).mono ?_
    rintro x W4 ⟨v4, rfl, ho4, hb4⟩
    have HO4 := hide (ho4.mono (B' := w.heap.size) (by omega))
    have HB4 := hide (HBW.out.trans (hb4.mono (by omega)))
    clear ho4 hb4
    go_wp2
    go_ret
    exact ⟨_, rfl, HO4.out, HB4.out⟩

end Go.Proofs.Ytanmjihiceibbab

/- Contract of ferrymanref04.pairs. -/
namespace Go.Proofs.Ytanmjihiceibbab
open Go.RowKit

end Go.Proofs.Ytanmjihiceibbab

/- Contracts of ferrymanref04: May. -/
namespace Go.Proofs.Ytanmjihiceibbab
open Go.RowKit

end Go.Proofs.Ytanmjihiceibbab

/- Contracts of ferrymanref04: Fits, Same. -/
namespace Go.Proofs.Ytanmjihiceibbab
open Go.RowKit

end Go.Proofs.Ytanmjihiceibbab

/- Contracts of ferrymanref09: Table, May, Same. -/
namespace Go.Proofs.Ytanmjihiceibbab
open Go.RowKit

set_option maxRecDepth 100000 in
set_option maxHeartbeats 4000000 in
theorem refTable_any (v : Value) (l : List Ent) (w : World) (hr : RdE w v l) :
    Calls Try.prog 12 #[v] w fun e w' => e = .returned (.bool (decide (TabOk l))) ∧ Below w.heap.size w w' := by
  obtain ⟨ao, cap, rfl, hlc, hcm, -, -, hao⟩ := hr
  have hml : (l.length : Int) ≤ 9223372036854775807 := by unfold maxLen at hcm; omega
  have HAO := hide hao
  clear hao hlc hcm
  obtain ⟨D, hD⟩ : ∃ D, D = decide (TabOk l) := ⟨_, rfl⟩
  rw [← hD]
  have HDT : Hid (TabTo l l.length → D = true) := fun h => by rw [hD]; exact decide_eq_true h
  have HDF : Hid (∀ k, k ≤ l.length → ¬ TabTo l k → D = false) := fun k hk h => by rw [hD]; exact decide_eq_false (fun hf => h (TabTo.mono hf hk))
  have HP0 := hide (TabTo.zero l)
  clear hD
  go_enter Try.func12, Try.ntmps12
  go_wp2
  go_loopw [3] (fun vi wr => ∃ k : Nat, vi = .int .i64 (k : Int) ∧ k ≤ l.length ∧ Hid (TabTo l k) ∧ Hid (Below w.heap.size w wr)) (fun vi _ => l.length - (intOf vi).toNat)
  case atStart => exact ⟨0, rfl, Nat.zero_le _, HP0, Below.refl _ _⟩
  case round =>
    obtain ⟨k, rfl, hk, hP, hB⟩ := hrel
    by_cases hlt : k < l.length
    case neg =>
      obtain rfl : k = l.length := by omega
      have HT := hide (HDT.out hP.out)
      go_wp2
      go_ret
      rw [HT.out]
      exact ⟨rfl, hB.out⟩
    rcases HAO.out with h0 | ⟨c, off, rfl, hc⟩
    · rw [h0] at hlt; simp at hlt
    have hck := hc k hlt
    have hkc := hck.keep (hB.out.block c hck.lt)
    have hne1 : c ≠ wr.heap.size := by have := hkc.lt; omega
    obtain ⟨c0, c1, c2⟩ := hkc
    have HPN := hide (TabTo.next (t := l) (k := k))
    have HPV : Hid (0 < k → EntAt wr c (off + (k - 1) * 3) (l.getD (k - 1) zeroE)) := hide (fun h => (hc (k - 1) (by omega)).keep (hB.out.block c (hc (k - 1) (by omega)).lt))
    have HBA : Hid (∀ X, Below w.heap.size w (wr.alloc X)) := fun X => hB.out.alloc hB.out.size X
    have HDK : Hid (¬ TabTo l (k + 1) → D = false) := hide (HDF.out (k + 1) (by omega))
    have HX : Hid (∀ cs, Be (wr.alloc (.cells cs 47)) wr.heap.size cs) := fun cs => heap_alloc_new wr _
    obtain ⟨r, hr⟩ : ∃ r, r = l.getD k zeroE := ⟨_, rfl⟩
    rw [← hr] at HPN c0 c1 c2
    clear hc hck hr HDF
    obtain ⟨P, S, X⟩ := r
    dsimp only at HPN c0 c1 c2
    unfold EntOk at HPN
    dsimp only at HPN
    by_cases hp0 : P < 0
    · have HD := hide (HDK.out (fun h => by have := (HPN.out.1 h).2.1; omega))
      clear HPN HDK
      go_upto_region 5 with fail
      go_quiet (fail)
      go_wp2
      go_ret
      rw [HD.out]
      exact ⟨rfl, below_drewN (HBA.out _) _⟩
    have hp0d : decide (P < 0) = false := decide_eq_false hp0
    by_cases hp1 : 64 < P
    · have HD := hide (HDK.out (fun h => by have := (HPN.out.1 h).2.1; omega))
      clear HPN HDK
      go_upto_region 5 with fail
      go_quiet (fail)
      go_wp2
      go_ret
      rw [HD.out]
      exact ⟨rfl, below_drewN (HBA.out _) _⟩
    have hp1d : decide (64 < P) = false := decide_eq_false hp1
    by_cases hs0 : S < 0
    · have HD := hide (HDK.out (fun h => by have := (HPN.out.1 h).2.1; omega))
      clear HPN HDK
      go_upto_region 5 with fail
      go_quiet (fail)
      go_wp2
      go_ret
      rw [HD.out]
      exact ⟨rfl, below_drewN (HBA.out _) _⟩
    have hs0d : decide (S < 0) = false := decide_eq_false hs0
    by_cases hs1 : 4611686018427387904 ≤ S
    · have HD := hide (HDK.out (fun h => by have := (HPN.out.1 h).2.1; omega))
      clear HPN HDK
      go_upto_region 5 with fail
      go_quiet (fail)
      go_wp2
      go_ret
      rw [HD.out]
      exact ⟨rfl, below_drewN (HBA.out _) _⟩
    have hs1d : decide (4611686018427387904 ≤ S) = false := decide_eq_false hs1
    by_cases hx0 : X < -1125899906842624
    · have HD := hide (HDK.out (fun h => by have := (HPN.out.1 h).2.1; omega))
      clear HPN HDK
      go_upto_region 5 with fail
      go_quiet (fail)
      go_wp2
      go_ret
      rw [HD.out]
      exact ⟨rfl, below_drewN (HBA.out _) _⟩
    have hx0d : decide (X < -1125899906842624) = false := decide_eq_false hx0
    by_cases hx1 : 1125899906842624 < X
    · have HD := hide (HDK.out (fun h => by have := (HPN.out.1 h).2.1; omega))
      clear HPN HDK
      go_upto_region 5 with fail
      go_quiet (fail)
      go_wp2
      go_ret
      rw [HD.out]
      exact ⟨rfl, below_drewN (HBA.out _) _⟩
    have hx1d : decide (1125899906842624 < X) = false := decide_eq_false hx1
    have HEO : Hid (0 ≤ P ∧ P ≤ 64 ∧ 0 ≤ S ∧ S < 4611686018427387904 ∧ -1125899906842624 ≤ X ∧ X ≤ 1125899906842624) := hide ⟨by omega, by omega, by omega, by omega, by omega, by omega⟩
    clear hp0 hp1 hs0 hs1 hx0 hx1
    by_cases hk0 : k = 0
    · have HP1 := hide (HPN.out.2 ⟨hP.out, HEO.out, fun h => absurd h (by omega)⟩)
      have hkd : decide (0 < k) = false := decide_eq_false (by omega)
      have hki : decide ((0 : Int) < (k : Int)) = false := decide_eq_false (by omega)
      clear HPN HDK HPV hk0
      go_upto_region 5 with fail
      go_quiet (fail)
      go_wp2
      go_roundw
      case rel => exact ⟨k + 1, by go_num, by omega, HP1, below_drewN (HBA.out _) _⟩
      case measure => simp [intOf]; omega
    · obtain ⟨q, rfl⟩ : ∃ q, k = q + 1 := ⟨k - 1, by omega⟩
      clear hk0
      have hpw := HPV.out (by omega)
      have hpv : ∀ X, (wr.alloc X).cell? ⟨c, off + (q + 1 - 1) * 3, none⟩ = some (.int .i64 (l.getD (q + 1 - 1) zeroE).proc) := fun X => (hpw.keep (Below.heap_alloc _ _ _ hpw.lt)).1
      clear hpw
      rw [Nat.add_sub_cancel] at hpv HPN
      have hqi : ((q + 1 : Nat) : Int) - 1 = (q : Int) := by omega
      have hql : (q : Int) < (l.length : Int) := by omega
      have hq0 : (0 : Int) < ((q + 1 : Nat) : Int) := by omega
      clear HPV
      generalize (l.getD q zeroE).proc = P0 at *
      by_cases hge : P ≤ P0
      · have HD := hide (HDK.out (fun h => by have := (HPN.out.1 h).2.2 (by omega); omega))
        clear HPN HDK
        go_upto_region 5 with fail
        go_quiet (fail)
        go_wp2
        go_ret
        rw [HD.out]
        exact ⟨rfl, below_drewN (HBA.out _) _⟩
      · have hged : decide (P ≤ P0) = false := decide_eq_false hge
        have HP1 := hide (HPN.out.2 ⟨hP.out, HEO.out, fun _ => by omega⟩)
        clear HPN HDK hge
        go_upto_region 5 with fail
        go_quiet (fail)
        go_wp2
        go_roundw
        case rel => exact ⟨q + 1 + 1, by go_num, by omega, HP1, below_drewN (HBA.out _) _⟩
        case measure => simp [intOf]; omega

end Go.Proofs.Ytanmjihiceibbab

/- Contracts of ferrymanref09: May, Same. -/
namespace Go.Proofs.Ytanmjihiceibbab
open Go.RowKit

/-- A box of a snapshot. -/
def Bn (w : World) (b : Nat) (cs : Array Value) : Prop := w.heap[b]? = some (.cells cs 27 (0, 0))

theorem Bn.lt {w : World} {b : Nat} {cs : Array Value} (h : Bn w b cs) : b < w.heap.size := (Array.getElem?_eq_some_iff.1 h).1

theorem Bn.below {w w' : World} {b B : Nat} {cs : Array Value} (h : Bn w b cs) (hb : Below B w w') (hB : w.heap.size ≤ B) : Bn w' b cs := (hb.block b (by have := h.lt; omega)).trans h

theorem Bn.cell {w : World} {b : Nat} {cs : Array Value} (h : Bn w b cs) (j : Nat) : w.cell? ⟨b, j, none⟩ = cs[j]? ∧ w.frozen? ⟨b, j, none⟩ = false := ⟨cell_of_row w b j _ _ _ h, frozen_of_row w b j _ _ h⟩

theorem mayN_parts (s : Snap) : MayN s ↔ MayS s.st ∧ TabOk s.tab ∧ 0 ≤ s.idx ∧ s.idx < 4611686018427387904 := by
  unfold MayN
  constructor
  · rintro ⟨⟨h1, h2⟩, h3, h4⟩
    exact ⟨h3, h4, h1, h2⟩
  · rintro ⟨h3, h4, h1, h2⟩
    exact ⟨⟨h1, h2⟩, h3, h4⟩

theorem new_two (w : World) (X Y : Obj) : ((w.alloc X).alloc Y).heap[w.heap.size + 1]? = some Y := by
  have h := heap_alloc_new (w.alloc X) Y
  have e : (w.alloc X).heap.size = w.heap.size + 1 := by simp
  rw [e] at h
  exact h

/-- Are two snapshots the same? -/
def SameN (a b : Snap) : Prop := SameS a.st b.st ∧ a.idx = b.idx ∧ a.tab = b.tab

instance (a b : Snap) : Decidable (SameN a b) := by unfold SameN; infer_instance

theorem takeE_snoc {l : List Ent} {q : Nat} (h : q < l.length) : l.take (q + 1) = l.take q ++ [l.getD q zeroE] := by
  rw [List.take_add_one]
  simp [List.getD, h]

end Go.Proofs.Ytanmjihiceibbab

/- What is read stays while boxes are written: entries; a result that is a snapshot. -/
namespace Go.Proofs.Ytanmjihiceibbab
open Go.RowKit

theorem RdE.but {w w' : World} {v : Value} {l : List Ent} (h : RdE w v l) {R T : Nat} (hb : But R T w w') (hn : l = [] ∨ ∀ b, v.ownBlock = some b → b ≠ R ∧ b ≠ T) : RdE w' v l := by
  obtain ⟨ao, cap, rfl, h2, h3, hn0, hw, h4⟩ := h
  refine ⟨ao, cap, rfl, h2, h3, hn0, hw, ?_⟩
  rcases h4 with h4 | ⟨b, off, h5, h6⟩
  · exact .inl h4
  · by_cases hl : l = []
    · exact .inl hl
    · refine .inr ⟨b, off, h5, fun j hj => ?_⟩
      have h7 := h6 j hj
      rcases hn with hn | hn
      · exact absurd hn hl
      · have h8 := hn b (by rw [h5]; rfl)
        exact h7.keep (hb.block b h7.lt h8.1 h8.2)

theorem RdE.block {w : World} {v : Value} {l : List Ent} (h : RdE w v l) : l = [] ∨ ∀ b, v.ownBlock = some b → b < w.heap.size := by
  obtain ⟨ao, cap, rfl, h2, h3, hn0, hw, h4⟩ := h
  rcases h4 with h4 | ⟨b, off, rfl, h6⟩
  · exact .inl h4
  · by_cases hl : l = []
    · exact .inl hl
    · refine .inr fun c hc => ?_
      have e : b = c := by simpa [Value.ownBlock] using hc
      rw [← e]
      exact (h6 0 (List.length_pos_iff.2 hl)).lt

theorem RdI.old {w : World} {v : Value} {l : List Int} (h : RdI w v l) : l = [] ∨ ∀ b, v.ownBlock = some b → b < w.heap.size := by
  rcases h.block with h | ⟨_, b, hb, hlt⟩
  · exact .inl h
  · refine .inr fun c hc => ?_
    rw [hb] at hc
    injection hc with hc
    omega

theorem OwnE.fresh {w : World} {B : Nat} {v : Value} {l : List Ent} (h : OwnE w B v l) : ∀ b, v.ownBlock = some b → B ≤ b := fun b hb => (World.ownsRow.lt h b hb).1

/-- What is decoded: a snapshot, and an error's number. -/
def DecodedN (w : World) (r : Snap × Int) (e : Ending) (w' : World) : Prop :=
  ∃ vl vt, e = .returned (.tuple #[.agg #[.int .i64 r.1.idx, .int .i64 r.1.st.kind, vl, .bool r.1.st.shut, .int .i64 r.1.st.eng, vt], .int .i64 r.2]) ∧ RdI w' vl r.1.st.L ∧ I64 r.1.st.kind ∧ I64 r.1.st.eng ∧ RdE w' vt r.1.tab ∧ I64 r.1.idx ∧ (∀ b, vl.ownBlock = some b → w.heap.size ≤ b) ∧ (∀ b, vt.ownBlock = some b → w.heap.size ≤ b) ∧ Below w.heap.size w w'

theorem DecodedN.zero {w w' : World} (n : Int) (hb : Below w.heap.size w w') : DecodedN w (zeroN, n) (.returned (.tuple #[.agg #[.int .i64 0, .int .i64 0, .slice none 0 0, .bool false, .int .i64 0, .slice none 0 0], .int .i64 n])) w' :=
  ⟨_, _, rfl, RdI.nil _, (i64_small (by decide) (by decide) : I64 0), (i64_small (by decide) (by decide) : I64 0), RdE.nil _, (i64_small (by decide) (by decide) : I64 0), fun b hb => by simp [Value.ownBlock] at hb, fun b hb => by simp [Value.ownBlock] at hb, hb⟩

theorem SnV.below {w w' : World} {v : Value} {s : Snap} (h : SnV w v s) {B : Nat} (hb : Below B w w') (hB : w.heap.size ≤ B) : SnV w' v s := by
  obtain ⟨vl, vt, e, hl, hk, he, ht, hi⟩ := h
  exact ⟨vl, vt, e, hl.below hb hB, hk, he, ht.below hb hB, hi⟩

theorem SnV.shape {w : World} {v : Value} {s : Snap} (h : SnV w v s) : ∃ la lc ta tc, v = .agg #[.int .i64 s.idx, .int .i64 s.st.kind, .slice la s.st.L.length lc, .bool s.st.shut, .int .i64 s.st.eng, .slice ta s.tab.length tc] := by
  obtain ⟨vl, vt, e, hl, hk, he, ht, hi⟩ := h
  obtain ⟨la, lc, h1, -⟩ := hl
  obtain ⟨ta, tc, h2⟩ := ht.shape
  subst h1 h2
  exact ⟨la, lc, ta, tc, e⟩

theorem DecodedN.sn {w w' : World} {r : Snap × Int} {e : Ending} (h : DecodedN w r e w') : ∃ v, e = .returned (.tuple #[v, .int .i64 r.2]) ∧ SnV w' v r.1 ∧ Below w.heap.size w w' := by
  obtain ⟨vl, vt, rfl, hl, hk, he, ht, hi, _, _, hb⟩ := h
  exact ⟨_, rfl, ⟨vl, vt, rfl, hl, hk, he, ht, hi⟩, hb⟩

/-- Six cells of a block, written. -/
def six (w : World) (R : Nat) (x0 x1 x2 x3 x4 x5 : Value) : World := (((((w.setCell ⟨R, 0, none⟩ x0).setCell ⟨R, 1, none⟩ x1).setCell ⟨R, 2, none⟩ x2).setCell ⟨R, 3, none⟩ x3).setCell ⟨R, 4, none⟩ x4).setCell ⟨R, 5, none⟩ x5

theorem belowSix {C : Nat} {w0 w : World} (h : Below C w0 w) (R : Nat) (hR : C ≤ R) (x0 x1 x2 x3 x4 x5 : Value) : Below C w0 (six w R x0 x1 x2 x3 x4 x5) :=
  (((((h.setCell hR _).setCell hR _).setCell hR _).setCell hR _).setCell hR _).setCell hR _

theorem belowSixE {C : Nat} {w0 w : World} (h : Below C w0 w) (R : Nat) (hR : C ≤ R) (x0 x1 x2 x3 x4 x5 : Value) : Below C w0 ((((((w.setCell ⟨R, 0, none⟩ x0).setCell ⟨R, 1, none⟩ x1).setCell ⟨R, 2, none⟩ x2).setCell ⟨R, 3, none⟩ x3).setCell ⟨R, 4, none⟩ x4).setCell ⟨R, 5, none⟩ x5) := belowSix h R hR x0 x1 x2 x3 x4 x5

theorem butSix (w : World) (R : Nat) (x0 x1 x2 x3 x4 x5 : Value) : But R R w (six w R x0 x1 x2 x3 x4 x5) :=
  ((((((But.refl R R w).set _ _ (.inl rfl) _).set _ _ (.inl rfl) _).set _ _ (.inl rfl) _).set _ _ (.inl rfl) _).set _ _ (.inl rfl) _).set _ _ (.inl rfl) _

theorem Bn.set {w : World} {b : Nat} {cs : Array Value} (h : Bn w b cs) (j : Nat) (x : Value) : Bn (w.setCell ⟨b, j, none⟩ x) b (cs.setIfInBounds j x) := by
  have := heap_setCell_same w b j _ _ x h
  unfold Bn
  simpa using this

theorem Bn.other {w : World} {b c : Nat} {cs : Array Value} (h : Bn w b cs) (j : Nat) (x : Value) (hne : b ≠ c) : Bn (w.setCell ⟨c, j, none⟩ x) b cs := (Below.heap_setCell _ _ _ _ hne).trans h

end Go.Proofs.Ytanmjihiceibbab

/- Objects: where a key's pair stands; what the landed step makes of a state. -/
namespace Go.Proofs.Ytanmjihiceibbab

/-- Where a key's pair stands, or would stand. -/
def placeP (key : Int) : List Int → Nat
  | a :: _ :: r => if key ≤ a then 0 else placeP key r + 2
  | _ => 0

/-- A key has a pair. -/
def hitP (key : Int) (l : List Int) : Bool := (getP key l).isSome

theorem placeP_le (key : Int) : ∀ (l : List Int), l.length % 2 = 0 → placeP key l ≤ l.length ∧ placeP key l % 2 = 0
  | [], _ => ⟨Nat.le_refl _, rfl⟩
  | [_], h => by simp at h
  | a :: b :: r, h => by
    have ih := placeP_le key r (by simp at h; omega)
    unfold placeP
    split
    · simp
    · simp
      omega

/-- Ahead of the place all keys are less. -/
theorem placeP_drop (key : Int) : ∀ (l : List Int) (k : Nat), l.length % 2 = 0 → k % 2 = 0 → k ≤ l.length → (∀ j, j < k → j % 2 = 0 → l.getD j 0 < key) → placeP key l = k + placeP key (l.drop k)
  | [], k, _, _, hk, _ => by
    have : k = 0 := by simpa using hk
    subst this
    rfl
  | [_], _, h, _, _, _ => by simp at h
  | a :: b :: r, k, h, hk2, hk, hall => by
    by_cases h0 : k = 0
    · subst h0
      simp
    · obtain ⟨j, rfl⟩ : ∃ j, k = j + 2 := ⟨k - 2, by omega⟩
      have h1 := hall 0 (by omega) rfl
      have h1' : a < key := h1
      have ih := placeP_drop key r j (by simp at h; omega) (by omega) (by simp at hk; omega) (fun i hi hi2 => by
        have := hall (i + 2) (by omega) (by omega)
        exact this)
      conv => lhs; unfold placeP
      rw [if_neg (by omega), ih]
      show j + placeP key (r.drop j) + 2 = j + 2 + placeP key (r.drop j)
      omega

theorem placeP_stop (key : Int) (l : List Int) (k : Nat) (hk : k + 1 < l.length) (h : key ≤ l.getD k 0) : placeP key (l.drop k) = 0 := by
  rw [drop_pair l k hk, placeP, if_pos h]

theorem placeP_hit (key least : Int) : ∀ (l : List Int) (lo : Int), Pairs least lo l → hitP key l = decide (placeP key l < l.length ∧ l.getD (placeP key l) 0 = key) ∧ (hitP key l = true → getP key l = some (l.getD (placeP key l + 1) 0) ∧ placeP key l + 1 < l.length)
  | [], lo, _ => by simp [hitP, getP, placeP]
  | [_], lo, h => by simp [Pairs] at h
  | a :: b :: r, lo, h => by
    have hg := getP_above (least := least) (key := key) (l := r) (lo := a)
    unfold Pairs at h
    have ih := placeP_hit key least r a h.2.2.2.2
    by_cases h1 : key ≤ a
    · have e : placeP key (a :: b :: r) = 0 := by unfold placeP; rw [if_pos h1]
      rw [e]
      by_cases h2 : a = key
      · have e2 : getP key (a :: b :: r) = some b := by rw [getP_cons, if_pos h2]
        unfold hitP
        rw [e2]
        simp [h2]
      · have e2 : getP key (a :: b :: r) = none := by rw [getP_cons, if_neg h2, hg h.2.2.2.2 h1]
        unfold hitP
        rw [e2]
        simp [h2]
    · have e : placeP key (a :: b :: r) = placeP key r + 2 := by rw [placeP, if_neg h1]
      have e2 : getP key (a :: b :: r) = getP key r := by rw [getP_cons, if_neg (by omega)]
      have e3 : hitP key (a :: b :: r) = hitP key r := by unfold hitP; rw [e2]
      rw [e, e2, e3]
      refine ⟨?_, fun hh => ?_⟩
      · rw [ih.1]
        have e4 : (a :: b :: r).getD (placeP key r + 2) 0 = r.getD (placeP key r) 0 := rfl
        rw [e4]
        apply decide_eq_decide.2
        simp
      · have := ih.2 hh
        refine ⟨this.1, ?_⟩
        simp
        omega

theorem withF_insert (key n least : Int) : ∀ (l : List Int) (lo : Int), Pairs least lo l → hitP key l = false → withF key n false l = l.take (placeP key l) ++ ([key, n] ++ l.drop (placeP key l))
  | [], lo, _, _ => by simp [withF, placeP]
  | [_], lo, h, _ => by simp [Pairs] at h
  | a :: b :: r, lo, h, hm => by
    rw [withF_cons key n least a b r lo h]
    unfold Pairs at h
    have ih := withF_insert key n least r a h.2.2.2.2
    unfold hitP at hm
    rw [getP_cons] at hm
    by_cases h2 : a = key
    · rw [if_pos h2] at hm
      simp at hm
    · rw [if_neg h2] at hm
      by_cases h1 : key < a
      · rw [if_pos h1, placeP, if_pos (by omega)]
        rfl
      · rw [if_neg h1, if_neg (by omega), ih hm, placeP, if_neg (by omega)]
        rfl

theorem withF_set (key n least : Int) : ∀ (l : List Int) (lo : Int), Pairs least lo l → hitP key l = true → withF key n false l = l.set (placeP key l + 1) n
  | [], lo, _, h => by simp [hitP, getP] at h
  | [_], lo, h, _ => by simp [Pairs] at h
  | a :: b :: r, lo, h, hm => by
    rw [withF_cons key n least a b r lo h]
    have hg := getP_above (least := least) (key := key) (l := r) (lo := a)
    unfold Pairs at h
    have ih := withF_set key n least r a h.2.2.2.2
    unfold hitP at hm
    rw [getP_cons] at hm
    by_cases h2 : a = key
    · rw [if_neg (by omega), if_pos h2.symm, placeP, if_pos (by omega), h2]
      rfl
    · rw [if_neg h2] at hm
      by_cases h1 : key < a
      · rw [hg h.2.2.2.2 (by omega)] at hm
        simp at hm
      · rw [if_neg h1, if_neg (by omega), ih hm, placeP, if_neg (by omega)]
        rfl

theorem withoutF_above {least key : Int} : ∀ {l : List Int} {lo : Int}, Pairs least lo l → key ≤ lo → withoutF key l = l
  | [], _, _, _ => rfl
  | [_], _, h, _ => by simp [Pairs] at h
  | a :: b :: r, lo, h, hk => by
    unfold Pairs at h
    rw [withoutF_cons, if_pos (by omega), withoutF_above h.2.2.2.2 (by omega)]

theorem withoutF_not (key least : Int) : ∀ (l : List Int) (lo : Int), Pairs least lo l → hitP key l = false → withoutF key l = l
  | [], lo, _, _ => rfl
  | [_], lo, h, _ => by simp [Pairs] at h
  | a :: b :: r, lo, h, hm => by
    unfold Pairs at h
    have ih := withoutF_not key least r a h.2.2.2.2
    unfold hitP at hm
    rw [getP_cons] at hm
    by_cases h2 : a = key
    · rw [if_pos h2] at hm
      simp at hm
    · rw [if_neg h2] at hm
      rw [withoutF_cons, if_pos h2, ih hm]

theorem withoutF_cut (key least : Int) : ∀ (l : List Int) (lo : Int), Pairs least lo l → hitP key l = true → withoutF key l = l.take (placeP key l) ++ l.drop (placeP key l + 2)
  | [], lo, _, h => by simp [hitP, getP] at h
  | [_], lo, h, _ => by simp [Pairs] at h
  | a :: b :: r, lo, h, hm => by
    have hg := getP_above (least := least) (key := key) (l := r) (lo := a)
    unfold Pairs at h
    have ih := withoutF_cut key least r a h.2.2.2.2
    unfold hitP at hm
    rw [getP_cons] at hm
    rw [withoutF_cons]
    by_cases h2 : a = key
    · rw [if_neg (by omega), placeP, if_pos (by omega), withoutF_above h.2.2.2.2 (by omega)]
      rfl
    · rw [if_neg h2] at hm
      rw [if_pos h2]
      by_cases h1 : key ≤ a
      · rw [hg h.2.2.2.2 h1] at hm
        simp at hm
      · rw [ih hm, placeP, if_neg h1]
        rfl

/-- A store's step, as it landed: a key that may not be is told first. -/
def storeO (s : St) (o : Opn) : St × Int :=
  if o.a < 0 ∨ 255 < o.a then (s, -1) else
  if o.code ≠ 7 ∧ o.code ≠ 6 ∧ o.code ≠ 5 then (s, 0) else
  if o.code = 6 then (⟨s.kind, withoutF o.a s.L, s.shut, s.eng⟩, hadF o.a s.L) else
  if o.code = 5 then (if findF o.a 0 s.L < 0 ∧ s.L.length = 128 then (s, -2) else (⟨s.kind, withF o.a (cutZ o.b) false s.L, s.shut, s.eng⟩, hadF o.a s.L)) else
  (s, hadF o.a s.L)

/-- A state behind an operation, and what came of it, as it landed. -/
def stepO (s : St) (o : Opn) : St × Int :=
  if ¬ MayS s then (s, 0) else
  if s.shut = true then (s, -1125899906842624) else
  if o.code = 10 then (⟨s.kind, s.L, true, if 0 ≤ o.a ∧ o.a ≤ 2 then o.a else s.eng⟩, 0) else
  if s.kind ≤ 1 then oneS s o else if s.kind ≤ 3 then listS s o else if s.kind = 4 then storeO s o else ledgerS s o

/-- The state is what the document's step makes of it. -/
theorem storeO_state (s : St) (o : Opn) : (storeO s o).1 = (storeS s o).1 := by
  unfold storeO storeS
  by_cases h1 : o.a < 0 ∨ 255 < o.a
  · rw [if_pos h1]
    split
    · rfl
    · first | rfl | (rw [if_pos h1])
  · rw [if_neg h1, if_neg h1]

theorem stepO_state (s : St) (o : Opn) : (stepO s o).1 = (stepS s o).1 := by
  unfold stepO stepS
  split
  · rfl
  split
  · rfl
  split
  · rfl
  split
  · rfl
  split
  · rfl
  split
  · exact storeO_state s o
  · rfl

/-- So is the answer, but for operations that a store does not know, on what is no key. -/
theorem stepO_eq (s : St) (o : Opn) (h : s.kind ≠ 4 ∨ s.shut = true ∨ o.code = 10 ∨ o.code = 5 ∨ o.code = 6 ∨ o.code = 7 ∨ (0 ≤ o.a ∧ o.a ≤ 255)) : stepO s o = stepS s o := by
  unfold stepO stepS
  split
  · rfl
  split
  · rfl
  split
  · rfl
  split
  · rfl
  split
  · rfl
  split
  · rename_i hm hs hc _ _ hk
    unfold storeO storeS
    rcases h with h | h | h | h | h | h | h
    · exact absurd hk h
    · exact absurd h hs
    · exact absurd h hc
    · rw [if_neg (show ¬ (o.code ≠ 7 ∧ o.code ≠ 6 ∧ o.code ≠ 5) by omega), if_neg (show ¬ (o.code ≠ 7 ∧ o.code ≠ 6 ∧ o.code ≠ 5) by omega)]
    · rw [if_neg (show ¬ (o.code ≠ 7 ∧ o.code ≠ 6 ∧ o.code ≠ 5) by omega), if_neg (show ¬ (o.code ≠ 7 ∧ o.code ≠ 6 ∧ o.code ≠ 5) by omega)]
    · rw [if_neg (show ¬ (o.code ≠ 7 ∧ o.code ≠ 6 ∧ o.code ≠ 5) by omega), if_neg (show ¬ (o.code ≠ 7 ∧ o.code ≠ 6 ∧ o.code ≠ 5) by omega)]
    · rw [if_neg (show ¬ (o.a < 0 ∨ 255 < o.a) by omega), if_neg (show ¬ (o.a < 0 ∨ 255 < o.a) by omega)]
  · rfl

theorem stepO_not {s : St} (h : ¬ MayS s) (o : Opn) : stepO s o = (s, 0) := by
  unfold stepO
  rw [if_pos h]

theorem stepO_shut {s : St} (h : MayS s) (hs : s.shut = true) (o : Opn) : stepO s o = (s, -1125899906842624) := by
  unfold stepO
  rw [if_neg (fun e => e h), if_pos hs]

theorem stepO_may {s : St} (h : MayS s) (o : Opn) : MayS (stepO s o).1 := by rw [stepO_state]; exact step_may h o
theorem stepO_kind (s : St) (o : Opn) : (stepO s o).1.kind = s.kind := by rw [stepO_state]; exact step_kind s o
theorem stepO_shut' {s : St} (h : MayS s) (o : Opn) : (stepO s o).1.shut = (s.shut || decide (o.code = 10)) := by rw [stepO_state]; exact step_shut' h o

/-- A state behind operations, and what came of each, as it landed. -/
def foldO : St → List Opn → St × List Int
  | s, [] => (s, [])
  | s, o :: r => ((foldO (stepO s o).1 r).1, (stepO s o).2 :: (foldO (stepO s o).1 r).2)

theorem foldO_snoc : ∀ (l : List Opn) (s : St) (o : Opn), foldO s (l ++ [o]) = ((stepO (foldO s l).1 o).1, (foldO s l).2 ++ [(stepO (foldO s l).1 o).2])
  | [], _, _ => rfl
  | p :: r, s, o => by
    rw [List.cons_append, foldO, foldO_snoc r (stepO s p).1 o, foldO]
    rfl

end Go.Proofs.Ytanmjihiceibbab

/- A snapshot behind records, over plain lists, and what follows. -/
namespace Go.Proofs.Ytanmjihiceibbab

/-- A snapshot behind one record that fits. -/
def nextN (s : Snap) (r : Rec) : Snap := ⟨s.idx + 1, (stepO s.st r.op).1, noteL s.tab ⟨r.proc, r.seq, (stepO s.st r.op).2⟩⟩

/-- A snapshot behind records, or the first error. -/
def takeN : Snap → List Rec → Snap × Int
  | s, [] => (s, 0)
  | s, r :: l => if r.idx ≠ s.idx then (zeroN, 15) else if ¬ FitsR r then (zeroN, 1) else takeN (nextN s r) l

theorem takeN_err : ∀ (l : List Rec) (s : Snap), (takeN s l).2 ≠ 0 → takeN s l = (zeroN, (takeN s l).2)
  | [], s, h => absurd rfl h
  | r :: l, s, h => by
    rw [takeN] at h ⊢
    split
    · rfl
    · rename_i h1
      rw [if_neg h1] at h
      split
      · rfl
      · rename_i h2
        rw [if_neg h2] at h
        exact takeN_err l _ h

theorem takeN_app : ∀ (a b : List Rec) (s : Snap), takeN s (a ++ b) = if (takeN s a).2 = 0 then takeN (takeN s a).1 b else takeN s a
  | [], b, s => by simp [takeN]
  | r :: a, b, s => by
    rw [List.cons_append, takeN, takeN]
    by_cases h1 : r.idx ≠ s.idx
    · rw [if_pos h1, if_pos h1, if_neg (by simp)]
    · rw [if_neg h1, if_neg h1]
      by_cases h2 : ¬ FitsR r
      · rw [if_pos h2, if_pos h2, if_neg (by simp)]
      · rw [if_neg h2, if_neg h2]
        exact takeN_app a b _

theorem takeN_cut {s : Snap} {l : List Rec} (k : Nat) (h : (takeN s l).2 = 0) : (takeN s (l.take k)).2 = 0 ∧ takeN (takeN s (l.take k)).1 (l.drop k) = takeN s l := by
  have e := takeN_app (l.take k) (l.drop k) s
  rw [List.take_append_drop] at e
  by_cases h0 : (takeN s (l.take k)).2 = 0
  · rw [if_pos h0] at e
    exact ⟨h0, e.symm⟩
  · rw [if_neg h0] at e
    rw [e] at h
    exact absurd h h0

theorem takeN_cut_err {s : Snap} {l : List Rec} (k : Nat) : (takeN s (l.take k)).2 = 0 ∨ (takeN s (l.take k)).2 = (takeN s l).2 := by
  have e := takeN_app (l.take k) (l.drop k) s
  rw [List.take_append_drop] at e
  by_cases h0 : (takeN s (l.take k)).2 = 0
  · exact .inl h0
  · rw [if_neg h0] at e
    exact .inr (by rw [e])

theorem takeN_state : ∀ (l : List Rec) (s : Snap), (takeN s l).2 = 0 → (takeN s l).1.st = (foldO s.st (l.map (fun r => r.op))).1 ∧ (takeN s l).1.idx = s.idx + l.length
  | [], s, _ => by simp [takeN, foldO]
  | r :: l, s, h => by
    rw [takeN] at h ⊢
    by_cases h1 : r.idx ≠ s.idx
    · rw [if_pos h1] at h
      exact absurd h (by decide)
    rw [if_neg h1] at h ⊢
    by_cases h2 : ¬ FitsR r
    · rw [if_pos h2] at h
      exact absurd h (by decide)
    rw [if_neg h2] at h ⊢
    obtain ⟨i1, i2⟩ := takeN_state l (nextN s r) h
    rw [i1, i2, List.map_cons, foldO]
    refine ⟨rfl, ?_⟩
    show s.idx + 1 + _ = _
    rw [List.length_cons]
    omega

theorem takeN_few : ∀ (l : List Rec) (s : Snap), (takeN s l).2 = 0 → (takeN s l).1.tab.length ≤ s.tab.length + l.length
  | [], s, _ => by simp [takeN]
  | r :: l, s, h => by
    rw [takeN] at h ⊢
    by_cases h1 : r.idx ≠ s.idx
    · rw [if_pos h1] at h
      exact absurd h (by decide)
    rw [if_neg h1] at h ⊢
    by_cases h2 : ¬ FitsR r
    · rw [if_pos h2] at h
      exact absurd h (by decide)
    rw [if_neg h2] at h ⊢
    have i1 := takeN_few l (nextN s r) h
    have i2 := noteL_len s.tab ⟨r.proc, r.seq, (stepO s.st r.op).2⟩
    have e : (nextN s r).tab = noteL s.tab ⟨r.proc, r.seq, (stepO s.st r.op).2⟩ := rfl
    rw [e] at i1
    rw [List.length_cons]
    omega

end Go.Proofs.Ytanmjihiceibbab

/- Blocks of records as bytes, over plain lists, and what follows. -/
namespace Go.Proofs.Ytanmjihiceibbab

/-- The Seq of the last record that has a process; 0: there is none. -/
def lastSeq (l : List Rec) (p : Int) : Int := l.foldl (fun a r => if r.proc = p then r.seq else a) 0

theorem lastSeq_snoc (l : List Rec) (r : Rec) (p : Int) : lastSeq (l ++ [r]) p = if r.proc = p then r.seq else lastSeq l p := by
  unfold lastSeq
  rw [List.foldl_append]
  rfl

theorem lastSeq_nil (p : Int) : lastSeq [] p = 0 := rfl

theorem lastSeq_bd {l : List Rec} (p : Int) : (∀ r ∈ l, FitsR r) → 0 ≤ lastSeq l p ∧ lastSeq l p < 4611686018427387904 := by
  unfold lastSeq
  suffices h : ∀ (l : List Rec) (a : Int), (∀ r ∈ l, FitsR r) → 0 ≤ a → a < 4611686018427387904 → 0 ≤ l.foldl (fun a r => if r.proc = p then r.seq else a) a ∧ l.foldl (fun a r => if r.proc = p then r.seq else a) a < 4611686018427387904 by
    exact fun hl => h l 0 hl (by decide) (by decide)
  intro l
  induction l with
  | nil => intro a _ h0 h1; exact ⟨h0, h1⟩
  | cons r t ih =>
    intro a hf h0 h1
    rw [List.foldl_cons]
    have hr := hf r (by simp)
    obtain ⟨_, _, _, hs0, hs1, _⟩ := hr
    by_cases hp : r.proc = p
    · rw [if_pos hp]
      exact ih _ (fun s hs => hf s (by simp [hs])) hs0 hs1
    · rw [if_neg hp]
      exact ih _ (fun s hs => hf s (by simp [hs])) h0 h1

/-- A record behind others, as bytes. -/
def encOne (pre : List Rec) (r : Rec) : List UInt8 :=
  Lib.uvarint r.proc.toNat ++ (Lib.uvarint (Lib.zigzag (r.seq - lastSeq pre r.proc)) ++ (putOpL r.op ++ Lib.uvarint (Lib.zigzag r.resp)))

/-- Records behind others, as bytes. -/
def encRs (pre : List Rec) : List Rec → List UInt8
  | [] => []
  | r :: t => encOne pre r ++ encRs (pre ++ [r]) t

/-- A block's bytes. -/
def encB (l : List Rec) : List UInt8 := Lib.uvarint (l.headD zeroR).idx.toNat ++ (Lib.uvarint l.length ++ encRs [] l)

/-- Is each Index one more than the one ahead? -/
def chainR : Int → List Rec → Prop
  | _, [] => True
  | i, r :: t => r.idx = i ∧ chainR (i + 1) t

instance chainR_dec : ∀ (i : Int) (l : List Rec), Decidable (chainR i l)
  | _, [] => .isTrue trivial
  | i, r :: t => by
    unfold chainR
    exact @instDecidableAnd _ _ _ (chainR_dec (i + 1) t)

/-- May records stand in a block? -/
def FitsB (l : List Rec) : Prop := 1 ≤ l.length ∧ l.length ≤ 256 ∧ (∀ r ∈ l, FitsR r) ∧ chainR (l.headD zeroR).idx l

instance (l : List Rec) : Decidable (FitsB l) := by unfold FitsB; infer_instance

theorem encRs_app : ∀ (a b pre : List Rec), encRs pre (a ++ b) = encRs pre a ++ encRs (pre ++ a) b
  | [], b, pre => by simp [encRs]
  | r :: t, b, pre => by
    have e : pre ++ [r] ++ t = pre ++ r :: t := by simp
    rw [List.cons_append, encRs, encRs_app t b, e, encRs]
    exact (List.append_assoc _ _ _).symm

theorem encRs_snoc (l : List Rec) (k : Nat) (hk : k < l.length) : encRs [] (l.take (k + 1)) = encRs [] (l.take k) ++ encOne (l.take k) (l.getD k zeroR) := by
  have e : l.take (k + 1) = l.take k ++ [l.getD k zeroR] := by
    rw [List.take_add_one]
    simp [List.getD, hk]
  rw [e, encRs_app]
  simp [encRs]

/-- The record that bytes begin with, behind others, and how many bytes it has. -/
def oneL (pre : List Rec) (b : List UInt8) : Rec × Nat :=
  let i := (dec62 b).2
  let j := (dec64 (b.drop i)).2
  let k := (getOpL (b.drop (i + j))).2
  let m := (dec64 (b.drop (i + j + k))).2
  if i = 0 ∨ j = 0 ∨ k = 0 ∨ m = 0 then (zeroR, 0)
  else (⟨0, (dec62 b).1, IntKind.i64.wrap (lastSeq pre (dec62 b).1 + zag (dec64 (b.drop i)).1), (getOpL (b.drop (i + j))).1, zag (dec64 (b.drop (i + j + k))).1⟩, i + j + k + m)

theorem wrap_id {n : Int} (h : I64 n) : IntKind.i64.wrap n = n := by
  obtain ⟨h0, h1⟩ := h
  rw [IntKind.wrap_i64]
  omega

theorem diff_i64 {l : List Rec} (hl : ∀ r ∈ l, FitsR r) {r : Rec} (hr : FitsR r) : I64 (r.seq - lastSeq l r.proc) := by
  obtain ⟨h0, h1⟩ := lastSeq_bd r.proc hl
  obtain ⟨_, _, _, hs0, hs1, _⟩ := hr
  exact ⟨by omega, by omega⟩

theorem one_enc {pre : List Rec} (hl : ∀ r ∈ pre, FitsR r) {r : Rec} (hr : FitsR r) (t : List UInt8) : oneL pre (encOne pre r ++ t) = ({ r with idx := 0 }, (encOne pre r).length) := by
  have hd := diff_i64 hl hr
  have hresp := fitsR_resp hr
  obtain ⟨ho, _, _, hs0, hs1, hp0, hp1, _⟩ := id hr
  have E : encOne pre r ++ t = Lib.uvarint r.proc.toNat ++ (Lib.uvarint (Lib.zigzag (r.seq - lastSeq pre r.proc)) ++ (putOpL r.op ++ (Lib.uvarint (Lib.zigzag r.resp) ++ t))) := by
    unfold encOne
    simp only [List.append_assoc]
  have d1 := dec62_uvarint r.proc.toNat (Lib.uvarint (Lib.zigzag (r.seq - lastSeq pre r.proc)) ++ (putOpL r.op ++ (Lib.uvarint (Lib.zigzag r.resp) ++ t))) (by omega)
  rw [← E] at d1
  have e1 : (encOne pre r ++ t).drop (Lib.uvarint r.proc.toNat).length = Lib.uvarint (Lib.zigzag (r.seq - lastSeq pre r.proc)) ++ (putOpL r.op ++ (Lib.uvarint (Lib.zigzag r.resp) ++ t)) := by rw [E, List.drop_left]
  have d2 := dec64_uvarint (Lib.zigzag (r.seq - lastSeq pre r.proc)) (putOpL r.op ++ (Lib.uvarint (Lib.zigzag r.resp) ++ t)) (zig_lt hd)
  have e2 : (encOne pre r ++ t).drop ((Lib.uvarint r.proc.toNat).length + (Lib.uvarint (Lib.zigzag (r.seq - lastSeq pre r.proc))).length) = putOpL r.op ++ (Lib.uvarint (Lib.zigzag r.resp) ++ t) := by rw [← List.drop_drop, e1, List.drop_left]
  have d3 := getOp_put r.op ho (Lib.uvarint (Lib.zigzag r.resp) ++ t)
  have e3 : (encOne pre r ++ t).drop ((Lib.uvarint r.proc.toNat).length + (Lib.uvarint (Lib.zigzag (r.seq - lastSeq pre r.proc))).length + (putOpL r.op).length) = Lib.uvarint (Lib.zigzag r.resp) ++ t := by rw [← List.drop_drop, e2, List.drop_left]
  have d4 := dec64_uvarint (Lib.zigzag r.resp) t (zig_lt hresp)
  have n1 := uv_ne r.proc.toNat
  have n2 := uv_ne (Lib.zigzag (r.seq - lastSeq pre r.proc))
  have n4 := uv_ne (Lib.zigzag r.resp)
  have n3 : (putOpL r.op).length ≠ 0 := by
    unfold putOpL
    have := uv_ne r.op.code.toNat
    rw [List.length_append]
    omega
  unfold oneL
  simp only [d1, e1, d2, e2, d3, e3, d4]
  rw [if_neg (by rintro (h | h | h | h); exact n1 h; exact n2 h; exact n3 h; exact n4 h)]
  have hpn : ((r.proc.toNat : Nat) : Int) = r.proc := by omega
  rw [hpn, zag_zigzag _ hd.1 hd.2, zag_zigzag _ hresp.1 hresp.2]
  have hw : lastSeq pre r.proc + (r.seq - lastSeq pre r.proc) = r.seq := by omega
  rw [hw, wrap_id ⟨by omega, by omega⟩]
  congr 1
  unfold encOne
  simp only [List.length_append]
  omega

theorem uv_inj62 {a b : Nat} (ha : a < 4611686018427387904) (hb : b < 4611686018427387904) {x y : List UInt8} (h : Lib.uvarint a ++ x = Lib.uvarint b ++ y) : a = b ∧ x = y := by
  have d1 := dec62_uvarint a x ha
  have d2 := dec62_uvarint b y hb
  rw [h, d2] at d1
  have e := (Prod.mk.injEq ..).mp d1
  have hab : a = b := e.1.symm
  subst hab
  exact ⟨rfl, List.append_cancel_left h⟩

/-- Of two lists neither's bytes begin the other's. -/
theorem encRs_inj : ∀ (l l' pre : List Rec) (i : Int) (t : List UInt8), l.length = l'.length → chainR i l → chainR i l' → (∀ r ∈ pre, FitsR r) → (∀ r ∈ l, FitsR r) → (∀ r ∈ l', FitsR r) → encRs pre l' = encRs pre l ++ t → l' = l ∧ t = []
  | [], [], pre, i, t, _, _, _, _, _, _, h => ⟨rfl, by simpa [encRs] using h.symm⟩
  | r :: u, r' :: u', pre, i, t, hlen, hc, hc', hp, hf, hf', h => by
    have hr := hf r (by simp)
    have hr' := hf' r' (by simp)
    have h1 := one_enc hp hr (encRs (pre ++ [r]) u ++ t)
    have h2 := one_enc hp hr' (encRs (pre ++ [r']) u')
    have hh : encOne pre r' ++ encRs (pre ++ [r']) u' = encOne pre r ++ (encRs (pre ++ [r]) u ++ t) := by
      rw [encRs, encRs] at h
      rw [h, List.append_assoc]
    rw [hh, h1] at h2
    have hs := ((Prod.mk.injEq ..).mp h2).1
    have hri : r.idx = r'.idx := by rw [hc.1, hc'.1]
    have hrr : r' = r := by
      obtain ⟨i1, p1, s1, o1, e1⟩ := r
      obtain ⟨i2, p2, s2, o2, e2⟩ := r'
      simp only [Rec.mk.injEq, true_and] at hs hri ⊢
      obtain ⟨h1, h2, h3, h4⟩ := hs
      exact ⟨hri.symm, h1.symm, h2.symm, h3.symm, h4.symm⟩
    subst hrr
    have hrest : encRs (pre ++ [r']) u' = encRs (pre ++ [r']) u ++ t := List.append_cancel_left hh
    obtain ⟨q1, q2⟩ := encRs_inj u u' (pre ++ [r']) (i + 1) t (by simpa using hlen) hc.2 hc'.2 (fun s hs => by
      rcases List.mem_append.1 hs with h | h
      · exact hp s h
      · simp at h; rw [h]; exact hr) (fun s hs => hf s (by simp [hs])) (fun s hs => hf' s (by simp [hs])) hrest
    exact ⟨by rw [q1], q2⟩

theorem encB_inj {l l' : List Rec} (hl : FitsB l) (hl' : FitsB l') {t : List UInt8} (h : encB l' = encB l ++ t) : l' = l ∧ t = [] := by
  obtain ⟨n1, n2, hf, hc⟩ := hl
  obtain ⟨n1', n2', hf', hc'⟩ := hl'
  unfold encB at h
  simp only [List.append_assoc] at h
  have hm : ∀ l : List Rec, 1 ≤ l.length → l.headD zeroR ∈ l := fun l h => by
    match l, h with
    | r :: u, _ => simp
  obtain ⟨_, i0, i1, _⟩ := hf _ (hm l n1)
  obtain ⟨_, j0, j1, _⟩ := hf' _ (hm l' n1')
  obtain ⟨k1, k2⟩ := uv_inj62 (by omega) (by omega) h
  obtain ⟨k3, k4⟩ := uv_inj62 (by omega) (by omega) k2
  have hidx : (l.headD zeroR).idx = (l'.headD zeroR).idx := by omega
  rw [← hidx] at hc'
  exact encRs_inj l l' [] _ t (by omega) hc hc' (fun r hr => by simp at hr) hf hf' k4

theorem encB_apart {l l' : List Rec} (hl : FitsB l) (hl' : FitsB l') : encB l = encB l' ↔ l = l' := by
  constructor
  · intro h
    exact (encB_inj hl' hl (t := []) (by rw [List.append_nil]; exact h)).1
  · intro h
    rw [h]

theorem encB_cut {l l' : List Rec} (hl : FitsB l) (hl' : FitsB l') {n : Nat} (hn : n < (encB l).length) : encB l' ≠ (encB l).take n := by
  intro h
  have h2 : encB l = encB l' ++ (encB l).drop n := by rw [h, List.take_append_drop]
  obtain ⟨_, h3⟩ := encB_inj hl' hl h2
  have h4 := congrArg List.length h3
  rw [List.length_drop] at h4
  simp at h4
  omega

theorem encB_more {l l' : List Rec} (hl : FitsB l) (hl' : FitsB l') {t : List UInt8} (ht : t ≠ []) : encB l' ≠ encB l ++ t := fun h => ht (encB_inj hl hl' h).2

theorem encB_ne {l : List Rec} : encB l ≠ [] := by
  unfold encB
  intro h
  have := congrArg List.length h
  have h2 := uv_ne (l.headD zeroR).idx.toNat
  simp only [List.length_append, List.length_nil] at this
  omega

/-- What bytes are: the records of which they are the bytes, or none and ErrForm. -/
def DecB (b : List UInt8) (l : List Rec) (e : Int) : Prop := (e = 0 ∧ FitsB l ∧ encB l = b) ∨ (e = 3 ∧ l = [] ∧ ∀ l', FitsB l' → encB l' ≠ b)

theorem DecB.unique {b : List UInt8} {l l' : List Rec} {e e' : Int} (h : DecB b l e) (h' : DecB b l' e') : l = l' ∧ e = e' := by
  rcases h with ⟨h1, h2, h3⟩ | ⟨h1, h2, h3⟩
  · rcases h' with ⟨k1, k2, k3⟩ | ⟨k1, k2, k3⟩
    · exact ⟨(encB_apart h2 k2).1 (h3.trans k3.symm), by omega⟩
    · exact absurd h3 (k3 l h2)
  · rcases h' with ⟨k1, k2, k3⟩ | ⟨k1, k2, k3⟩
    · exact absurd k3 (h3 l' k2)
    · exact ⟨by rw [h2, k2], by omega⟩

end Go.Proofs.Ytanmjihiceibbab

/- Slices of records in memory: what one reads ('RdR'), what a call owns ('OwnR'), and append onto them. -/
namespace Go.Proofs.Ytanmjihiceibbab
open Go.RowKit

/-- A record's seven cells. -/
def RecAt (w : World) (b o : Nat) (r : Rec) : Prop :=
  w.cell? ⟨b, o, none⟩ = some (.int .i64 r.idx) ∧ w.cell? ⟨b, o + 1, none⟩ = some (.int .i64 r.proc) ∧ w.cell? ⟨b, o + 2, none⟩ = some (.int .i64 r.seq) ∧ w.cell? ⟨b, o + 3, none⟩ = some (.int .i64 r.op.code) ∧ w.cell? ⟨b, o + 4, none⟩ = some (.int .i64 r.op.a) ∧ w.cell? ⟨b, o + 5, none⟩ = some (.int .i64 r.op.b) ∧ w.cell? ⟨b, o + 6, none⟩ = some (.int .i64 r.resp)

set_option maxRecDepth 100000 in
theorem RecAt.lt {w : World} {b o : Nat} {r : Rec} (h : RecAt w b o r) : b < w.heap.size := World.block_lt_of_cell? w ⟨b, o, none⟩ h.1

set_option maxRecDepth 100000 in
theorem RecAt.keep {w w' : World} {b o : Nat} {r : Rec} (h : RecAt w b o r) (hk : w'.heap[b]? = w.heap[b]?) : RecAt w' b o r := by
  have hc : ∀ i, w'.cell? ⟨b, i, none⟩ = w.cell? ⟨b, i, none⟩ := fun i => World.cell?_of_block (a := ⟨b, i, none⟩) hk
  unfold RecAt at h ⊢
  simp only [hc]
  exact h

/-- The slice value v reads, in the world w, as the records l. -/
def RdR (w : World) (v : Value) (l : List Rec) : Prop :=
  ∃ ao cap, v = .slice ao l.length cap ∧ l.length ≤ cap ∧ cap ≤ maxLen ∧ (ao = none → cap = 0) ∧ (∀ r ∈ l, RecOk r) ∧
    (l = [] ∨ ∃ b off, ao = some ⟨b, off, none⟩ ∧ ∀ j, j < l.length → RecAt w b (off + j * 7) (l.getD j zeroR))

set_option maxRecDepth 100000 in
theorem RdR.nil (w : World) : RdR w (.slice none 0 0) [] := ⟨none, 0, rfl, Nat.le_refl _, Nat.zero_le _, fun _ => rfl, (fun r h => by simp at h), .inl rfl⟩

set_option maxRecDepth 100000 in
theorem RdR.below {w w' : World} {v : Value} {l : List Rec} (h : RdR w v l) {B : Nat} (hb : Below B w w') (hB : w.heap.size ≤ B) : RdR w' v l := by
  obtain ⟨ao, cap, h1, h2, h3, hn, hw, h4⟩ := h
  refine ⟨ao, cap, h1, h2, h3, hn, hw, ?_⟩
  rcases h4 with h4 | ⟨b, off, h5, h6⟩
  · exact .inl h4
  · refine .inr ⟨b, off, h5, fun j hj => ?_⟩
    have h7 := h6 j hj
    exact h7.keep (hb.block b (by have := h7.lt; omega))

set_option maxRecDepth 100000 in
theorem RdR.front {w : World} {ao : Option Addr} {n cap : Nat} {l : List Rec} (h : RdR w (.slice ao n cap) l) (k : Nat) (hk : k ≤ l.length) : RdR w (.slice ao k cap) (l.take k) := by
  obtain ⟨ao', cap', hv, h1, h2, h3, hw, h4⟩ := h
  simp only [Value.slice.injEq] at hv
  obtain ⟨rfl, _, rfl⟩ := hv
  have hlen : (l.take k).length = k := by simp; omega
  refine ⟨ao, cap, by rw [hlen], by omega, h2, h3, fun r hr => hw r (List.mem_of_mem_take hr), ?_⟩
  rcases h4 with h4 | ⟨b, off, h5, h6⟩
  · exact .inl (by rw [h4]; simp)
  · refine .inr ⟨b, off, h5, fun j hj => ?_⟩
    have hj2 : j < k := by omega
    have e : (l.take k).getD j zeroR = l.getD j zeroR := by simp [List.getD, hj2]
    rw [e]
    exact h6 j (by omega)

/-- The cells of records. -/
def recCells : List Rec → List Value
  | [] => []
  | r :: t => (recC r).toList ++ recCells t

set_option maxRecDepth 100000 in
theorem recCells_length : ∀ l : List Rec, (recCells l).length = l.length * 7
  | [] => rfl
  | r :: t => by
    rw [recCells, List.length_append, recCells_length t, List.length_cons]
    simp [recC]
    omega

set_option maxRecDepth 100000 in
theorem recCells_app : ∀ a b : List Rec, recCells (a ++ b) = recCells a ++ recCells b
  | [], _ => rfl
  | r :: t, b => by rw [List.cons_append, recCells, recCells_app t b, recCells, List.append_assoc]

set_option maxRecDepth 100000 in
theorem recCells_get : ∀ (l : List Rec) (j k : Nat), j < l.length → k < 7 → (recCells l)[j * 7 + k]? = (recC (l.getD j zeroR))[k]?
  | r :: t, 0, k, _, hk => by
    rw [recCells, Nat.zero_mul, Nat.zero_add, List.getElem?_append_left (by simp [recC]; omega)]
    simp [List.getD]
  | r :: t, j + 1, k, hj, hk => by
    have e : (j + 1) * 7 + k = (recC r).toList.length + (j * 7 + k) := by simp [recC]; omega
    rw [recCells, e, List.getElem?_append_right (by omega), Nat.add_sub_cancel_left, recCells_get t j k (by simpa using hj) hk]
    simp [List.getD]

set_option maxRecDepth 100000 in
theorem recCells_one (l : List Rec) : ∀ u ∈ recCells l, u.oneCell' = true := by
  induction l with
  | nil => intro u hu; simp [recCells] at hu
  | cons r t ih =>
    intro u hu
    rw [recCells] at hu
    rcases List.mem_append.1 hu with h | h
    · simp [recC] at h
      rcases h with rfl | rfl | rfl | rfl | rfl | rfl | rfl <;> rfl
    · exact ih u h

/-- The slice value v lies at the head of a row of its own, from block B on, that holds the records l. -/
def OwnR (w : World) (B : Nat) (v : Value) (l : List Rec) : Prop := w.ownsRow B 38 7 v l.length (recCells l)

set_option maxRecDepth 100000 in
theorem OwnR.nil (w : World) (B : Nat) : OwnR w B (.slice none 0 0) [] := World.ownsRow_nil w B 38 7

set_option maxRecDepth 100000 in
theorem OwnR.rd {w : World} {B : Nat} {v : Value} {l : List Rec} (h : OwnR w B v l) (hw : ∀ r ∈ l, RecOk r) : RdR w v l := by
  rcases h.2 with ⟨hv, hn⟩ | ⟨g, cap, cur, hv, hb, hg, hnc, hcm, hcs, htake⟩
  · exact ⟨none, 0, by rw [hv, hn], by omega, Nat.zero_le _, fun _ => rfl, hw, .inl (List.eq_nil_of_length_eq_zero hn)⟩
  · refine ⟨some ⟨g, 0, none⟩, cap, hv, hnc, hcm, (fun e => by cases e), hw, .inr ⟨g, 0, rfl, fun j hj => ?_⟩⟩
    have hc : ∀ k u, k < 7 → (recC (l.getD j zeroR))[k]? = some u → w.cell? ⟨g, 0 + j * 7 + k, none⟩ = some u := fun k u hk hu => by
      have := World.ownsRow.cells h (g := g) (by rw [hv]; rfl) (j * 7 + k) u ((recCells_get l j k hj hk).trans hu)
      rw [Addr.add_lit] at this
      rw [Nat.add_assoc]
      exact this
    exact ⟨hc 0 _ (by decide) rfl, hc 1 _ (by decide) rfl, hc 2 _ (by decide) rfl, hc 3 _ (by decide) rfl, hc 4 _ (by decide) rfl, hc 5 _ (by decide) rfl, hc 6 _ (by decide) rfl⟩

set_option maxRecDepth 100000 in
theorem OwnR.below {w w' : World} {B B' : Nat} {v : Value} {l : List Rec} (h : OwnR w B v l) (hb : Below B' w w') (hB : w.heap.size ≤ B') : OwnR w' B v l := by
  obtain ⟨h1, h2⟩ := h
  refine ⟨h1, ?_⟩
  rcases h2 with h2 | ⟨g, cap, cur, hv, hbg, hg, r⟩
  · exact .inl h2
  · have hlt : g < w.heap.size := (Array.getElem?_eq_some_iff.1 hg).1
    exact .inr ⟨g, cap, cur, hv, hbg, by rw [hb.block g (by omega)]; exact hg, r⟩

set_option maxRecDepth 100000 in
theorem OwnR.mono {w : World} {B B' : Nat} {v : Value} {l : List Rec} (h : OwnR w B v l) (hB : B' ≤ B) : OwnR w B' v l := by
  obtain ⟨h1, h2⟩ := h
  refine ⟨h1, ?_⟩
  rcases h2 with h2 | ⟨g, cap, cur, hv, hb, r⟩
  · exact .inl h2
  · exact .inr ⟨g, cap, cur, hv, by omega, r⟩

set_option maxRecDepth 100000 in
theorem OwnR.shape {w : World} {B : Nat} {v : Value} {l : List Rec} (h : OwnR w B v l) : ∃ ao cap, v = .slice ao l.length cap := by
  rcases h.2 with ⟨hv, hn⟩ | ⟨g, cap, cur, hv, _⟩
  · exact ⟨none, 0, by rw [hv, hn]⟩
  · exact ⟨_, _, hv⟩

set_option maxRecDepth 100000 in
theorem info_rec : (Try.prog.info? 38).map (fun i => (i.zero, i.size, i.bytes)) = some (some (.agg #[.int .i64 0, .int .i64 0, .int .i64 0, .int .i64 0, .int .i64 0, .int .i64 0, .int .i64 0]), 7, 56) := by kernel_rfl

set_option maxRecDepth 100000 in
/-- One more record behind a row of one's own. -/
theorem run_append_rec (w : World) (ty : TypeId) (B : Nat) (v : Value) (l : List Rec) (h : OwnR w B v l) (r : Rec) (hlim : l.length ≤ 1000000) (hbase : B ≤ w.heap.size) :
    ∃ v' w', (Builtin.append_ #[28, 28] ty #[v, .slice (some ⟨w.heap.size, 0, none⟩) 1 1]).run Try.prog (w.alloc (.cells (recC r) 38)) = .ok v' w' ∧ OwnR w' B v' (l ++ [r]) ∧ Below B w w' := by
  obtain ⟨i0, hi, hz0, hz1, hz2⟩ := info_parts info_rec
  obtain ⟨v', w', hrun, ho, hg, _⟩ := run_append_own (P := Try.prog) (w.alloc (.cells (recC r) 38)) B 28 ty 38 i0 _ 7 56 Try.underlying28 hi hz0 hz1 hz2 rfl (by decide) v l.length (recCells l) (h.alloc _)
    ⟨w.heap.size, 0, none⟩ 1 1 (recCells [r]) (recCells_length [r]) (fun j u hj => by
      rw [Addr.add_lit, Nat.zero_add, cell_of_row _ w.heap.size j _ 38 (0, 0) (heap_alloc_new w _)]
      simpa [recCells] using hj) (recCells_one [r]) (by unfold maxLen; omega) (by omega) (by simp; omega)
  refine ⟨v', w', hrun, ?_, ?_⟩
  · unfold OwnR
    rw [List.length_append, recCells_app]
    exact ho
  · exact ((Below.refl _ _).alloc hbase _).grown hg (by simp; omega) (fun k hk => (World.ownsRow.lt h k hk).1)

set_option maxRecDepth 100000 in
theorem wpList_append_rec (w : World) {ops : Array Oper} {rest : List Oper} {o : Oper} {a : Act} {Q : Exit → Act → World → Prop} (hgd : o.guard = none) (s x : Operand)
    (ho : o.op = .call { callee := .builtin .append, args := #[s, x], argTypes := #[28, 28] })
    (B : Nat) (v : Value) (l : List Rec) (hs : a.eval s = v) (hown : OwnR w B v l) (r : Rec) (hx : a.eval x = .slice (some ⟨w.heap.size, 0, none⟩) 1 1)
    (hlim : l.length ≤ 1000000) (hbase : B ≤ w.heap.size)
    (h : ∀ v' w', OwnR w' B v' (l ++ [r]) → Below B w w' → wpList Try.prog ops Q rest (a.put o.dst v') w') : wpList Try.prog ops Q (o :: rest) a (w.alloc (.cells (recC r) 38)) :=
  wpList_plain hgd fun _ hK => by
    obtain ⟨v', w', hrun, h2, h3⟩ := run_append_rec w o.type B v l hown r hlim hbase
    unfold Oper.wp execOp
    simp only [ho, resolve, invoke, builtin, Sem.run_bind, Sem.run_pure, Result.andThen_ok, List.map_toArray, List.map_cons, List.map_nil, hs, hx, hrun]
    exact hK _ _ (h v' w' h2 h3)

set_option maxRecDepth 100000 in
theorem elem_recs : Try.prog.elem 28 = 38 := by kernel_rfl

set_option maxRecDepth 100000 in
theorem under_recs : Try.prog.underlying 28 = some (.slice (Try.prog.elem 28)) := by rw [elem_recs]; exact Try.underlying28

set_option maxRecDepth 100000 in
theorem size_rec (w : World) : (sizeOf 38).run Try.prog w = .ok 7 w := by
  obtain ⟨i0, hi, _, hz1, _⟩ := info_parts info_rec
  simp [sizeOf, typeInfo, hi, hz1]

set_option maxRecDepth 100000 in
/-- The first records of a slice. -/
theorem run_front_recs (W : World) (ao : Option Addr) (n cap : Nat) (i : Int) (k : Nat) (hi : i = (k : Int)) (hk : k ≤ cap) :
    (Instr.sliceAt 28 (.slice ao n cap) none (some (.int .i64 i)) none).run Try.prog W = .ok (.slice ao k cap) W := by
  subst hi
  rw [run_sliceAt_slice W 28 _ _ _ _ under_recs, run_slice_h W 28 ao n cap under_recs .i64 (k : Int) (by omega) (by omega), elem_recs, size_rec]
  have e : sliced ao 0 k cap 7 = .slice ao k cap := by
    unfold sliced
    cases ao <;> simp [Addr.add]
  simp [e]

end Go.Proofs.Ytanmjihiceibbab

/- Contracts of objs: within and what it answers, cut, full. -/
namespace Go.Proofs.Ytanmjihiceibbab
open Go.RowKit

set_option maxRecDepth 100000 in
/-- What lies from lo to hi. -/
theorem is_any (n lo hi : Int) (a b : Nat) (w : World) (ha : w.cell? ⟨a, 0, none⟩ = some (.int .i64 lo)) (hb : w.cell? ⟨b, 0, none⟩ = some (.int .i64 hi)) :
    Calls Try.prog 56 #[.int .i64 n, .pointer (some ⟨a, 0, none⟩), .pointer (some ⟨b, 0, none⟩)] w fun e w' => e = .returned (.bool (decide (lo ≤ n ∧ n ≤ hi))) ∧ w' = w := by
  have HD : Hid ((decide (lo ≤ n) && decide (n ≤ hi)) = decide (lo ≤ n ∧ n ≤ hi)) := (Bool.decide_and _ _).symm
  have HT : Hid (lo ≤ n → decide (n ≤ hi) = decide (lo ≤ n ∧ n ≤ hi)) := fun h => by rw [← HD.out, decide_eq_true h, Bool.true_and]
  by_cases h1 : lo ≤ n
  · go_enter Try.func56, Try.ntmps56
    go_wp2
    go_ret
    exact ⟨ret_b (HT.out h1), rfl⟩
  · go_enter Try.func56, Try.ntmps56
    go_wp2
    go_ret
    exact ⟨ret_b (by rw [decide_eq_false (Int.not_le.2 h1), Bool.false_and]), rfl⟩

set_option maxRecDepth 100000 in
theorem within_any (lo hi : Int) (w : World) :
    Calls Try.prog 38 #[.int .i64 lo, .int .i64 hi] w fun e w' => ∃ a b, e = .returned (.func (.func 56) #[] #[.pointer (some ⟨a, 0, none⟩), .pointer (some ⟨b, 0, none⟩)]) ∧ w'.cell? ⟨a, 0, none⟩ = some (.int .i64 lo) ∧ w'.cell? ⟨b, 0, none⟩ = some (.int .i64 hi) ∧ Below w.heap.size w w' := by
  have hmf : ∀ (fn : Fn) (first cap : Array Value) (w : World), (Instr.makeFunc fn first cap).run Try.prog w = .ok (.func fn first cap) w := fun _ _ _ _ => rfl
  have HB : Hid (∀ x y, Below w.heap.size w ((w.alloc x).alloc y)) := fun x y => ((Below.refl _ _).alloc (Nat.le_refl _) x).alloc (by simp) y
  go_enter Try.func38, Try.ntmps38
  go_wp2
  go_ret
  refine ⟨_, _, rfl, ?_, ?_, HB.out _ _⟩
  · rw [World.cell?_alloc_past _ _ _ (by simp), World.cell?_alloc_at _ _ _ _ rfl]; rfl
  · rw [World.cell?_alloc_at _ _ _ _ (by simp)]; rfl

theorem cut_maxmin (n : Int) : max (-1099511627776) (min n 1099511627776) = cutZ n := by
  unfold cutZ
  split
  · omega
  · split <;> omega

set_option maxRecDepth 100000 in
theorem cutO_any (n : Int) (w : World) : Calls Try.prog 59 #[.int .i64 n] w fun e w' => e = .returned (.int .i64 (cutZ n)) ∧ w' = w := by
  by_cases h1 : 1099511627776 < n
  · go_enter Try.func59, Try.ntmps59
    go_wp2
    go_ret
    refine ⟨ret_i ?_, rfl⟩
    first
      | exact cut_maxmin n
      | (unfold cutZ; split <;> (try split) <;> omega)
  by_cases h2 : n ≤ -1099511627776
  · go_enter Try.func59, Try.ntmps59
    go_wp2
    go_ret
    refine ⟨ret_i ?_, rfl⟩
    first
      | exact cut_maxmin n
      | (unfold cutZ; split <;> (try split) <;> omega)
  · go_enter Try.func59, Try.ntmps59
    go_wp2
    go_ret
    refine ⟨ret_i ?_, rfl⟩
    first
      | exact cut_maxmin n
      | (unfold cutZ; split <;> (try split) <;> omega)

set_option maxRecDepth 100000 in
theorem full_any (ao : Option Addr) (n cap : Nat) (w : World) : Calls Try.prog 63 #[.slice ao n cap] w fun e w' => e = .returned (.bool (decide (n = 128))) ∧ w' = w := by
  by_cases h : n = 128
  · have HD : Hid (decide (n = 128) = true) := decide_eq_true h
    have hq : ((n : Int) == 128) = true := beq_iff_eq.2 (by omega)
    clear h
    go_enter Try.func63, Try.ntmps63
    go_wp2
    go_ret
    exact ⟨ret_b HD.out.symm, rfl⟩
  · have HD : Hid (decide (n = 128) = false) := decide_eq_false h
    have hq : ((n : Int) == 128) = false := beq_eq_false_iff_ne.2 (by omega)
    clear h
    go_enter Try.func63, Try.ntmps63
    go_wp2
    go_ret
    exact ⟨ret_b HD.out.symm, rfl⟩

end Go.Proofs.Ytanmjihiceibbab

