/- Contracts of crc.Table, crc.More, crc.Sum. -/
import Derived.Test.YtgpdbboieokldaaGreatCrcTab
namespace Go.Proofs.YtgpdbboieokldaaGreat
open Go.RowKit

theorem results_cell {fn : Func} {p : Tmp} {ty : TypeId} (h : fn.results = #[.cell p ty]) (tmps : Array Value) (P : Program) (w : World) :
    (results fn tmps).run P w = ((asAddr (tmps.getD p undef)).run P w).andThen fun a w₁ => (loadVar ty a).run P w₁ := by
  simp only [results, h]
  simp [Sem.run_bind, Result.andThen]

set_option maxRecDepth 100000 in
set_option maxHeartbeats 1000000 in
theorem entry_any (k : Nat) (hk : k < 256) (w : World) : Calls Tryz.prog 110 #[.int .u32 (k : Int)] w fun e w' => e = .returned (.int .u32 (entry k : Nat)) ∧ w' = w := by
  have HK := hide hk
  clear hk
  go_enter Tryz.func110, Tryz.ntmps110
  go_wp2
  go_loop [0, 4] (fun x j => ∃ m : Nat, m ≤ 8 ∧ j = .int .i64 (m : Int) ∧ x = .int .u32 (ticks m k : Nat)) (fun _ j => 8 - (intOf j).toNat)
  case atStart => exact ⟨0, Nat.zero_le _, rfl, rfl⟩
  case round =>
    obtain ⟨m, hm, rfl, rfl⟩ := hrel
    by_cases hm8 : m < 8
    · have HS := hide (ticks_succ m k)
      have hbt : ticks m k < 4294967296 := ticks32 m (by have := HK.out; omega)
      generalize ticks m k = y at *
      obtain ⟨Y, hY⟩ : ∃ Y : Int, Y = (y : Int) := ⟨_, rfl⟩
      rw [← hY]
      have hY0 : 0 ≤ Y := by omega
      have hY1 : Y < 4294967296 := by omega
      have HY := hide hY
      have HBT := hide hbt
      clear hY hbt
      by_cases ho : Y % 2 = 1
      · have hob : (Y % 2 == 1) = true := beq_iff_eq.2 ho
        have HO := hide ho
        clear ho
        go_wp2
        go_round
        case rel =>
          have e := HY.out
          have eo := HO.out
          refine ⟨m + 1, by omega, by go_num, ?_⟩
          have e2 : Y / 2 = ((y / 2 : Nat) : Int) := by omega
          have e3 : (2197175160 : Int) = ((2197175160 : Nat) : Int) := rfl
          have ht : tick y = y / 2 ^^^ 2197175160 := if_pos (by omega)
          rw [HS.out, ht, e2, e3, xor_u32 _ _ (by have := HBT.out; omega) (by decide)]
        case measure => simp [intOf]; omega
      · have hob : (Y % 2 == 1) = false := beq_eq_false_iff_ne.2 ho
        have HO := hide ho
        clear ho
        go_wp2
        go_round
        case rel =>
          have e := HY.out
          have eo := HO.out
          refine ⟨m + 1, by omega, by go_num, ?_⟩
          have e2 : Y / 2 = ((y / 2 : Nat) : Int) := by omega
          have ht : tick y = y / 2 := if_neg (by omega)
          rw [HS.out, ht, e2]
        case measure => simp [intOf]; omega
    · have HE : Hid (ticks m k = entry k) := by
        have e : m = 8 := by omega
        rw [e]
        exact rfl
      generalize ticks m k = y at *
      go_wp2
      go_ret
      refine ⟨ret_int ?_, rfl⟩
      rw [HE.out]

set_option maxRecDepth 100000 in
set_option maxHeartbeats 1000000 in
theorem table_any (w : World) : Calls Tryz.prog 101 #[] w fun e w' => e = .returned (.agg tabCells) ∧ Below w.heap.size w w' := by
  have hz := (zero_of_info tab_zero).1
  have HC : Hid (∀ (k : Nat) (w : World), k < 256 → Calls Tryz.prog 110 #[.int .u32 (k : Int)] w fun e w' => e = .returned (.int .u32 (entry k : Nat)) ∧ w' = w) := fun k w hk => entry_any k hk w
  go_enter Tryz.func101, Tryz.ntmps101
  go_wp2
  go_loopw [3] (fun i wr => ∃ k : Nat, k ≤ 256 ∧ i = .int .i64 (k : Int) ∧ Hid (wr.heap[w.heap.size + 1]? = some (.cells (tabAt k) 115 (0, 0))) ∧ Hid (wr.heap[w.heap.size]? = some (.cells zeroTab 115 (0, 0))) ∧ Hid (Below w.heap.size w wr)) (fun i _ => 256 - (intOf i).toNat)
  case atStart =>
    have e1 : ((w.alloc (.cells zeroTab 115)).alloc (.cells zeroTab 115)).heap[w.heap.size + 1]? = some (.cells (tabAt 0) 115 (0, 0)) := by
      rw [tabAt_zero]
      have h := heap_alloc_last (w.alloc (.cells zeroTab 115)) (.cells zeroTab 115)
      have hs : (w.alloc (.cells zeroTab 115)).heap.size = w.heap.size + 1 := by simp
      rw [hs] at h
      exact h
    have e0 : ((w.alloc (.cells zeroTab 115)).alloc (.cells zeroTab 115)).heap[w.heap.size]? = some (.cells zeroTab 115 (0, 0)) :=
      (Below.heap_alloc _ _ w.heap.size (by simp)).trans (heap_alloc_last w _)
    exact ⟨0, Nat.zero_le _, rfl, e1, e0, ((Below.refl _ _).alloc (Nat.le_refl _) _).alloc (by simp) _⟩
  case round =>
    obtain ⟨k, hk, rfl, h1, h0, hb⟩ := hrel
    by_cases hlt : k < 256
    · have hcell : wr.cell? ⟨w.heap.size + 1, k, none⟩ = some (.int .u32 0) := by
        rw [cell_of_row wr _ k _ _ _ h1.out, tabAt_get k k hlt]
        simp
      have hfr : wr.frozen? ⟨w.heap.size + 1, k, none⟩ = false := frozen_of_row wr _ k _ _ h1.out
      have HST : Hid ((wr.setCell ⟨w.heap.size + 1, k, none⟩ (.int .u32 ((entry k : Nat) : Int))).heap[w.heap.size + 1]? = some (.cells (tabAt (k + 1)) 115 (0, 0))) := by
        have h := heap_setCell_same wr (w.heap.size + 1) k _ _ (.int .u32 ((entry k : Nat) : Int)) h1.out
        rw [tabAt_set k hlt] at h
        exact h
      go_wp2_with fail
      refine (HC.out k wr hlt).mono ?_
      rintro e w2 ⟨rfl, rfl⟩
      go_wp2
      go_roundw
      case rel => exact ⟨k + 1, by omega, by go_num, HST, (Below.heap_setCell _ _ _ _ (by show w.heap.size ≠ w.heap.size + 1; omega)).trans h0.out, hb.out.setCell (by show w.heap.size ≤ w.heap.size + 1; omega) _⟩
      case measure => simp [intOf]; omega
    · have h1' : wr.heap[w.heap.size + 1]? = some (.cells tabCells 115 (0, 0)) := by
        have e : k = 256 := by omega
        rw [← tabAt_full, ← e]
        exact h1.out
      have H1 := hide h1'
      have HRES : Hid ((loadVar 115 ⟨w.heap.size, 0, none⟩).run Tryz.prog (wr.setRow w.heap.size tabCells) = .ok (.agg tabCells) (wr.setRow w.heap.size tabCells)) :=
        run_loadVar_row (P := Tryz.prog) _ _ 115 115 tabCells (0, 0) _ (setRow_heap wr _ _ tabCells _ _ h0.out) Tryz.underlying115 rfl (tab_info tabCells_size)
      have HB : Hid (Below w.heap.size w (wr.setRow w.heap.size tabCells)) :=
        ⟨hb.out.os, hb.out.tape, hb.out.output, by have := hb.out.size; simp [World.setRow]; omega, fun j hj => (setRow_other wr _ j _ (by omega)).trans (hb.out.block j hj)⟩
      clear h1' h1
      go_wp2_with (first
        | refine wpList_load_tab _ rfl _ rfl (w.heap.size + 1) tabCells (0, 0) rfl H1.out tabCells_size ?_
        | refine wpList_store_tab _ rfl _ _ rfl w.heap.size zeroTab tabCells rfl rfl h0.out zeroTab_size tabCells_size tabCells_one ?_)
      refine bodyPost_ret (v := .agg tabCells) ?_ rfl ⟨rfl, HB.out⟩
      have h := HRES.out
      rw [results_cell Tryz.results101]
      have e : (asAddr (.pointer (some ⟨w.heap.size, 0, none⟩))).run Tryz.prog (wr.setRow w.heap.size tabCells) = .ok ⟨w.heap.size, 0, none⟩ (wr.setRow w.heap.size tabCells) := by simp [asAddr]
      simp only [Act.put, List.setIfInBounds_toArray, List.set_cons_succ, List.set_cons_zero]
      show ((asAddr (.pointer (some ⟨w.heap.size, 0, none⟩))).run Tryz.prog (wr.setRow w.heap.size tabCells)).andThen _ = _
      rw [e]
      simp only [Result.andThen]
      rw [h]

set_option maxRecDepth 100000 in
set_option maxHeartbeats 1000000 in
theorem more_any (s : Nat) (v : Value) (l : List UInt8) (w : World) (hr : Rd w v l) (hs : s < 4294967296) :
    Calls Tryz.prog 83 #[.int .u32 (s : Int), v] w fun e w' => e = .returned (.int .u32 (crcMore s l : Nat)) ∧ Below w.heap.size w w' := by
  have HR := hide hr
  obtain ⟨ao, cap, rfl, hlc, hcm, hn0, hao⟩ := hr
  clear hn0
  have HAO := hide hao
  clear hao
  have hml : (l.length : Int) ≤ 9223372036854775807 := by unfold maxLen at hcm; omega
  have HN := hide (not_u32 s hs)
  have HL : Hid (∀ k, crcReg (s ^^^ 4294967295) (l.take k) < 4294967296) := fun k => crcReg_lt _ (not_lt hs)
  have HE : Hid (crcMore s l = crcReg (s ^^^ 4294967295) l ^^^ 4294967295) := rfl
  have HT := hide (fun w => table_any w)
  have hz := (zero_of_info tab_zero).1
  generalize s ^^^ 4294967295 = x0 at *
  clear hs
  go_enter Tryz.func83, Tryz.ntmps83
  go_wp2_with fail
  refine (HT.out _).mono ?_
  rintro e w2 ⟨rfl, hb⟩
  have HB2 := hide hb
  clear hb HT
  go_wp2_with (refine wpList_keep_tab _ rfl _ _ rfl rfl rfl ?_)
  intro w3 hb3 ht3
  have HB3 := hide (HB2.out.trans (hb3.mono HB2.out.size))
  have HT3 := hide ht3
  clear hb3 ht3 hz
  go_wp2
  go_loop [6, 14] (fun x i => ∃ k : Nat, k ≤ l.length ∧ i = .int .i64 k ∧ x = .int .u32 (crcReg x0 (l.take k) : Nat)) (fun _ i => l.length - (intOf i).toNat)
  case atStart =>
    refine ⟨0, Nat.zero_le _, rfl, ?_⟩
    rw [HN.out]
    rfl
  case round =>
    obtain ⟨k, hk, rfl, rfl⟩ := hrel
    have hy := HL.out k
    by_cases hlt : k < l.length
    · have HS := hide (crcReg_snoc l x0 k hlt)
      rcases HAO.out with hao | ⟨b, off, rfl, _⟩
      · subst hao; simp at hlt
      have hck := (HR.out.below HB3.out (Nat.le_refl _)).at k hlt
      have hc256 : (l.getD k 0).toNat < 256 := UInt8.toNat_lt _
      generalize crcReg x0 (l.take k) = y at *
      generalize (l.getD k 0).toNat = c at *
      have hlb := byte_lt y c hc256
      have hbx : bits .xor .u8 ((y : Int) % 256) (c : Int) = ((y % 256 ^^^ c : Nat) : Int) := by
        have e : (y : Int) % 256 = ((y % 256 : Nat) : Int) := by omega
        rw [e]
        exact xor_u8 _ _ (by omega) hc256
      have HF : Hid (bits .xor .u32 ((entry (y % 256 ^^^ c) : Nat) : Int) ((y : Int) / 256) = ((crcByte y c : Nat) : Int)) := by
        have e : (y : Int) / 256 = ((y / 256 : Nat) : Int) := by omega
        rw [e, xor_u32 _ _ (entry_lt _ hlb) (by omega)]
        unfold crcByte
        rw [low_byte y c hc256]
        exact rfl
      have htc := HT3.out (y % 256 ^^^ c) hlb
      generalize hm : y % 256 ^^^ c = m at *
      have HM := hide hm
      clear hm
      have hmi : (m : Int) < 256 := by omega
      obtain ⟨E, hE⟩ : ∃ E : Int, E = ((entry m : Nat) : Int) := ⟨_, rfl⟩
      rw [← hE] at htc HF
      clear hE
      go_wp2
      go_round
      case rel => exact ⟨k + 1, by omega, by go_num, by rw [HS.out, ← HF.out]⟩
      case measure => simp [intOf]; omega
    · go_wp2
      go_ret
      refine ⟨ret_int ?_, HB3.out⟩
      rw [HE.out, not_u32 _ hy, List.take_of_length_le (by omega)]

set_option maxRecDepth 100000 in
theorem sum_any (v : Value) (l : List UInt8) (w : World) (hr : Rd w v l) :
    Calls Tryz.prog 45 #[v] w fun e w' => e = .returned (.int .u32 (crcMore 0 l : Nat)) ∧ Below w.heap.size w w' := by
  have HC : Hid (Calls Tryz.prog 83 #[.int .u32 0, v] w fun e w' => e = .returned (.int .u32 (crcMore 0 l : Nat)) ∧ Below w.heap.size w w') := more_any 0 v l w hr (by decide)
  generalize crcMore 0 l = m at *
  clear hr
  go_enter Tryz.func45, Tryz.ntmps45
  go_wp2_with fail
  refine HC.out.mono ?_
  rintro e w' ⟨rfl, hb⟩
  have HB := hide hb
  clear hb HC
  go_wp2
  go_ret
  exact ⟨rfl, HB.out⟩

end Go.Proofs.YtgpdbboieokldaaGreat
