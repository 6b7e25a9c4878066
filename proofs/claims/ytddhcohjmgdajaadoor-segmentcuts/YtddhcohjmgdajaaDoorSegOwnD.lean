/- Contract of segment: Encode. -/
import Derived.Test.YtddhcohjmgdajaaDoorSegOwnC
import Derived.Deep.RegionHeld2
namespace Go.Proofs.YtddhcohjmgdajaaDoor
open Go.RowKit

/-- One slice of one's own, in a row that was just made. -/
theorem OwnL.one {W : World} {B : Nat} {x : Value} {d : List UInt8} (hx : Own W B x d) (hB : B ≤ W.heap.size) (N : Nat) (hN : N = W.heap.size) : OwnL (W.alloc (.cells #[x] 26)) B (.slice (some ⟨N, 0, none⟩) 1 1) [d] := by
  subst hN
  refine ⟨[x], World.ownsRow_lit W #[x] 1 hB (by unfold maxLen; omega) rfl, fun j hj => ?_⟩
  have e : j = 0 := by simpa using hj
  subst e
  exact ⟨x, rfl, World.ownsRow.alloc hx _⟩

theorem run_append_rows (w : World) (ty : TypeId) (B : Nat) (v : Value) (L : List (List UInt8)) (h : OwnL w B v L) (vx : Value) (M : List (List UInt8)) (hx : OwnL w B vx M) (hlim : L.length + M.length ≤ 1000001) (hbase : B ≤ w.heap.size) :
    ∃ v' w', (Builtin.append_ #[49, 49] ty #[v, vx]).run Tryd.prog w = .ok v' w' ∧ OwnL w' B v' (L ++ M) ∧ Below B w w' := by
  obtain ⟨i0, hi, hz0, hz1, hz2⟩ := info_parts info_bytes
  obtain ⟨xs, h1, h3⟩ := h
  obtain ⟨ys, k1, k3⟩ := hx
  have hl : xs.length = L.length := by rw [h1.1, Nat.mul_one]
  have kl : ys.length = M.length := by rw [k1.1, Nat.mul_one]
  have hy1 : ∀ u ∈ ys, u.oneCell' = true := fun u hu => by
    obtain ⟨j, hj, rfl⟩ := List.getElem_of_mem hu
    obtain ⟨x, hx, ho⟩ := k3 j (by omega)
    rw [List.getElem?_eq_getElem hj] at hx
    obtain rfl := Option.some.inj hx
    rcases ho.2 with ⟨hv, _⟩ | ⟨g, cap, cur, hv, _⟩ <;> rw [hv] <;> rfl
  rcases k1.2 with ⟨hv, hn⟩ | ⟨g, cap, cur, hv, hbg, hg, _⟩
  · have hM : M = [] := List.eq_nil_of_length_eq_zero hn
    subst hM
    rw [hv]
    have hrun := run_append_owned_none (P := Tryd.prog) w B 49 ty 26 i0 1 Tryd.underlying49 hi v L.length xs h1
    exact ⟨v, w, hrun, by rw [List.append_nil]; exact ⟨xs, h1, h3⟩, Below.refl _ _⟩
  · subst hv
    obtain ⟨v', w', hrun, ho, hgr, _⟩ := run_append_own (P := Tryd.prog) w B 49 ty 26 i0 (.slice none 0 0) 1 24 Tryd.underlying49 hi hz0 hz1 hz2 rfl (by decide) v L.length xs h1
      ⟨g, 0, none⟩ M.length cap ys (by rw [kl, Nat.mul_one]) (World.ownsRow.cells k1 rfl) hy1 (by unfold maxLen; omega) (by omega) hbase
    refine ⟨v', w', hrun, ⟨xs ++ ys, by rw [List.length_append]; exact ho, fun j hj => ?_⟩, (Below.refl _ _).grown hgr hbase (fun k hk => (World.ownsRow.lt h1 k hk).1)⟩
    by_cases hj' : j < L.length
    · obtain ⟨y, hy, hoy⟩ := h3 j hj'
      refine ⟨y, by rw [List.getElem?_append_left (by omega)]; exact hy, ?_⟩
      have e : (L ++ M).getD j [] = L.getD j [] := by simp [List.getD, List.getElem?_append_left hj']
      rw [e]
      exact World.ownsRow.kept hoy hgr (own_apart h1 hoy)
    · rw [List.length_append] at hj
      obtain ⟨y, hy, hoy⟩ := k3 (j - L.length) (by omega)
      refine ⟨y, by rw [List.getElem?_append_right (by omega), hl]; exact hy, ?_⟩
      have e : (L ++ M).getD j [] = M.getD (j - L.length) [] := by simp [List.getD, List.getElem?_append_right (Nat.le_of_not_lt hj')]
      rw [e]
      exact World.ownsRow.kept hoy hgr (own_apart h1 hoy)

theorem step_append_rows {ops : Array Oper} {o : Oper} {a : Act} {w : World} {K : Act → World → Prop} {Q : Exit → Act → World → Prop} {E : Prop}
    (hg : o.guard = none) (s x : Operand) (hop : o.op = Op.call { callee := Callee.builtin Builtin.append, args := #[s, x], argTypes := #[49, 49] })
    (B : Nat) (v : Value) (L : List (List UInt8)) (hs : a.eval s = v) (hown : OwnL w B v L) (vx : Value) (M : List (List UInt8)) (hx : a.eval x = vx) (hr : OwnL w B vx M)
    (hlim : L.length + M.length ≤ 1000001) (hbase : B ≤ w.heap.size)
    (hK : ∀ v' w', OwnL w' B v' (L ++ M) → Below B w w' → K (a.put o.dst v') w') :
    if Region.wanted o (yielded ops a.tmps) = true then Oper.wp Tryd.prog o a w K Q else E := by
  have hw : Region.wanted o (yielded ops a.tmps) = true := by simp [Region.wanted, hg]
  rw [if_pos hw]
  obtain ⟨v', w', hrun, h2, h3⟩ := run_append_rows w o.type B v L hown vx M hr hlim hbase
  unfold Oper.wp execOp
  simp only [hop, resolve, invoke, builtin, Sem.run_bind, Sem.run_pure, Result.andThen_ok, List.map_toArray, List.map_cons, List.map_nil, hs, hx, hrun]
  exact hK v' w' h2 h3

theorem recsOk_head {l : List Rec} {f : Int} : RecsOk l f ↔ RecsOk l (l.headD zeroR).idx ∧ (l = [] ∨ (l.headD zeroR).idx = f) := by
  cases l with
  | nil => exact ⟨fun _ => ⟨⟨by simp, by simp, trivial⟩, .inl rfl⟩, fun _ => ⟨by simp, by simp, trivial⟩⟩
  | cons r t =>
    rw [List.headD_cons]
    constructor
    · intro h
      have := h.2.2.1
      rw [this]
      exact ⟨h, .inr rfl⟩
    · rintro ⟨h, h2⟩
      rcases h2 with h2 | h2
      · cases h2
      · rw [h2] at h; exact h

theorem foot_len {v : Nat} (h1 : 1 ≤ v) (h3 : v ≤ 3) {s : Seg} (hm : MayG s) : (footS (headS v s.kind.toNat s.first.toNat) (blocksS v s.recs)).length ≤ 6000 := by
  obtain ⟨⟨k0, k1, f0, f1⟩, hr⟩ := hm
  have hb := blocks_len h1 h3 hr.2.1
  have hh := headS_len (v := v) (k := s.kind.toNat) (f := s.first.toNat) h3 (by omega) (by omega)
  unfold footS
  have hbl := blocksS_len (v := v) s.recs
  have h4 := hr.1
  have q : (Lib.uvarint (blocksS v s.recs).length).length ≤ 10 := Lib.uvarint_length64 (by omega)
  have := frameOf_len6 (d := headS v s.kind.toNat s.first.toNat) (by omega)
  have := offs_len (blocksS v s.recs) (frameOf (headS v s.kind.toNat s.first.toNat)).length (by omega) (fun d hd => by have := hb d hd; omega)
  rw [List.length_append]
  omega

theorem parts_len6 {v : Nat} (h1 : 1 ≤ v) (h3 : v ≤ 3) {s : Seg} (hm : MayG s) : ∀ d ∈ partsS v s, d.length ≤ 6000 := by
  have hf := foot_len h1 h3 hm
  obtain ⟨⟨k0, k1, f0, f1⟩, hr⟩ := hm
  have hb := blocks_len h1 h3 hr.2.1
  have hh := headS_len (v := v) (k := s.kind.toNat) (f := s.first.toNat) h3 (by omega) (by omega)
  intro d hd
  unfold partsS at hd
  rcases List.mem_cons.1 hd with hd | hd
  · rw [hd]; omega
  · rcases List.mem_append.1 hd with hd | hd
    · exact hb d hd
    · rw [List.mem_singleton.1 hd]; exact hf

set_option maxRecDepth 100000 in
set_option maxHeartbeats 4000000 in
theorem encodeG_any (v : Int) (vs : Value) (s : Seg) (w : World) (hs : SgV w vs s) (_hlim : s.recs.length ≤ 5000) (ht : TabF w) :
    Calls Tryd.prog 8 #[.int .i64 v, vs] w fun e w' => EncodedG w v s e w' := by
  unfold EncodedG
  obtain ⟨vl, rfl, hrl, hk, hf⟩ := hs
  have HB0 : Hid (∀ X, Below w.heap.size w (w.alloc X)) := fun X => (Below.refl _ _).alloc (Nat.le_refl _) X
  have HB2 : Hid (∀ X Y, Below w.heap.size w ((w.alloc X).alloc Y)) := fun X Y => Below.allocs (Below.allocs (Below.refl _ _) X) Y
  have X1 : Hid (∀ cs Y, Bsg ((w.alloc (.cells cs 24)).alloc Y) w.heap.size cs) := fun cs Y => (Below.heap_alloc _ _ _ (by simp)).trans (heap_alloc_new w _)
  have X2 : Hid (∀ X cs, ((w.alloc X).alloc (.cells cs 42)).heap[w.heap.size + 1]? = some (.cells cs 42 (0, 0))) := fun X cs => two_new w X _
  have HRL := hide hrl
  have HFA := hide (fun W => fault_any v s.kind s.first W)
  by_cases hok : (1 ≤ v ∧ v ≤ 3) ∧ HeadOk s.kind s.first
  case neg =>
    have he : headErr v s.kind s.first ≠ 0 ∧ segErr v s = headErr v s.kind s.first ∧ segL v s = [] := by
      unfold headErr segErr segL
      by_cases hv : 1 ≤ v ∧ v ≤ 3
      · have hm : ¬ MayG s := fun h => hok ⟨hv, h.1⟩
        rw [if_pos hv, if_pos hv, if_pos hv, if_neg (fun h => hok ⟨hv, h⟩), if_neg hm, if_neg hm]
        exact ⟨by decide, rfl, rfl⟩
      · rw [if_neg hv, if_neg hv, if_neg hv]
        exact ⟨by decide, rfl, rfl⟩
    obtain ⟨he, hse, hsl⟩ := he
    rw [hse, hsl]
    generalize headErr v s.kind s.first = er at *
    have he' : (er != 0) = true := by rw [bne_iff_ne]; exact he
    obtain ⟨ao, cap, rfl, -⟩ := hrl
    obtain ⟨kind, first, recs⟩ := s
    simp only at *
    clear hok he hse hsl hk hf
    go_enter Tryd.func8, Tryd.ntmps8
    go_wp2_with fail
    refine (HFA.out _).mono ?_
    rintro e W1 ⟨rfl, hb1⟩
    have HB1 := hide ((HB2.out _ _).trans (hb1.mono (HB2.out _ _).size))
    clear hb1
    go_wp2
    go_ret2
    exact ⟨_, rfl, Own.nil _ _, HB1.out⟩
  obtain ⟨hv, hh⟩ := hok
  have hhe : headErr v s.kind s.first = 0 := by unfold headErr; rw [if_pos hv, if_pos hh]
  rw [hhe] at HFA
  have HGO := hide (fun W (hb : Below w.heap.size w W) => goOn_any vl s.recs W (hrl.below hb (Nat.le_refl _)))
  have HDA := hide (fun W => headData_any v s.kind s.first hv hh W)
  obtain ⟨n, hn⟩ : ∃ n : Nat, v = (n : Int) := ⟨v.toNat, by omega⟩
  have hn1 : 1 ≤ n := by omega
  have hn3 : n ≤ 3 := by omega
  have HBL : Hid (RecsOk s.recs s.first → ∀ W, Below w.heap.size w W → Calls Tryd.prog 21 #[.int .i64 v, vl] W fun e w' => ∃ v', e = .returned v' ∧ OwnL w' W.heap.size v' (blocksS n s.recs) ∧ Below W.heap.size W w') := hide (fun hr W hb => by
    rw [hn]
    exact blocks_any n hn1 hn3 vl s.recs _ W (hrl.below hb (Nat.le_refl _)) hr (ht.below hb (Nat.le_refl _)))
  have HFO : Hid (RecsOk s.recs s.first → ∀ v1 W, RdL W v1 ([headS n s.kind.toNat s.first.toNat] ++ blocksS n s.recs) → Calls Tryd.prog 23 #[v1] W fun e w' => ∃ v', e = .returned v' ∧ Own w' W.heap.size v' (footS (headS n s.kind.toNat s.first.toNat) (blocksS n s.recs)) ∧ Below W.heap.size W w') := hide (fun hr v1 W h => by
    have hp := parts_len6 hn1 hn3 (s := s) ⟨hh, hr⟩
    have hbl := blocksS_len (v := n) s.recs
    have := hr.1
    refine footer_any v1 _ _ W h (fun x hx => ?_) (by omega)
    have := hp x (by unfold partsS; rcases List.mem_cons.1 hx with h | h; rw [h]; simp; simp [h])
    omega)
  have HFR : Hid (RecsOk s.recs s.first → ∀ v1 W, RdL W v1 (([headS n s.kind.toNat s.first.toNat] ++ blocksS n s.recs) ++ [footS (headS n s.kind.toNat s.first.toNat) (blocksS n s.recs)]) → Calls Tryd.prog 22 #[v1] W fun e w' => ∃ v', e = .returned v' ∧ Own w' W.heap.size v' (segL v s) ∧ Below W.heap.size W w') := hide (fun hr v1 W h => by
    have hp := parts_len6 hn1 hn3 (s := s) ⟨hh, hr⟩
    have hbl := blocksS_len (v := n) s.recs
    have := hr.1
    have e1 : ([headS n s.kind.toNat s.first.toNat] ++ blocksS n s.recs) ++ [footS (headS n s.kind.toNat s.first.toNat) (blocksS n s.recs)] = partsS n s := by unfold partsS; simp
    have e2 : segL v s = framesOf (partsS n s) := by
      unfold segL
      rw [if_pos hv, if_pos ⟨hh, hr⟩, hn, Int.toNat_natCast]
      rfl
    have hfl := framesOf_len _ hp
    have hpl : (partsS n s).length = (blocksS n s.recs).length + 2 := by
      unfold partsS
      rw [List.length_cons, List.length_append, List.length_singleton]
    rw [e1] at h
    rw [e2]
    exact frames_any v1 _ W h (fun x hx => by have := hp x hx; omega) (by omega))
  have HSE : Hid (segErr v s = if RecsOk s.recs s.first then 0 else 1) := hide (by
    unfold segErr
    rw [if_pos hv]
    by_cases hr : RecsOk s.recs s.first
    · rw [if_pos hr, if_pos ⟨hh, hr⟩]
    · rw [if_neg hr, if_neg (fun h => hr h.2)])
  have HSN : Hid (¬ RecsOk s.recs s.first → segL v s = []) := hide (fun hr => by
    unfold segL
    rw [if_pos hv, if_neg (fun h => hr h.2)])
  have HRH := hide (recsOk_head (l := s.recs) (f := s.first))
  have hbn : (blocksS n s.recs).length ≤ 999999 ∨ ¬ RecsOk s.recs s.first := by
    by_cases hr : RecsOk s.recs s.first
    · have hbl := blocksS_len (v := n) s.recs
      have := hr.1
      exact .inl (by omega)
    · exact .inr hr
  have en : v.toNat = n := by omega
  rw [en] at HDA
  obtain ⟨ao, cap, rfl, hlc, hcm, -, -, hao⟩ := hrl
  have hml : (s.recs.length : Int) ≤ 9223372036854775807 := by unfold maxLen at hcm; omega
  have HAO := hide hao
  rw [headD_getD] at HGO HRH
  obtain ⟨kind, first, recs⟩ := s
  simp only at *
  generalize segL v ⟨kind, first, recs⟩ = SL at *
  generalize segErr v ⟨kind, first, recs⟩ = SE at *
  generalize headS n kind.toNat first.toNat = H at *
  generalize blocksS n recs = BS at *
  generalize footS H BS = FT at *
  clear hao hlc hcm hk hf hv hh hhe hn hn1 hn3 en ht
  have HBN := hide hbn
  clear hbn
  have hpos0 : recs.length = 0 ∨ (0 : Int) < (recs.length : Int) := by omega
  obtain ⟨bad, hbad⟩ : ∃ bad, bad = !decide (RecsOk recs first) := ⟨_, rfl⟩
  have HBAD := hide hbad
  clear hbad
  go_enter Tryd.func8, Tryd.ntmps8
  go_wp2_with fail
  refine (HFA.out _).mono ?_
  rintro e W1 ⟨rfl, hb1⟩
  have HX1 : Hid (Bsg W1 w.heap.size #[.int .i64 kind, .int .i64 first, .slice ao recs.length cap]) := hide ((X1.out _ _).below hb1 (Nat.le_refl _))
  have HY1 : Hid (W1.heap[w.heap.size + 1]? = some (.cells #[.int .i64 v, .int .i64 kind, .int .i64 first] 42 (0, 0))) := hide ((hb1.block _ (by simp)).trans (X2.out _ _))
  have HB1 := hide ((HB2.out _ _).trans (hb1.mono (HB2.out _ _).size))
  have hn1 : w.heap.size + 1 < W1.heap.size := (Array.getElem?_eq_some_iff.1 HY1.out).1
  clear hb1 HFA HB0 HB2 X1 X2
  go_upto_region 5 with fail
  go_cut [39] (fun x wc => x = .bool bad ∧ Hid (Below W1.heap.size W1 wc))
  case first =>
    obtain ⟨ι, hne, V, hV, hmem⟩ := below_cls W1.heap.size W1
    have HV := hide hV
    have HM := hide hmem
    obtain ⟨i0, hi0⟩ := hmem W1.drew (Below.refl _ _).drew
    have HBV : Hid (∀ i, Below w.heap.size w (V i)) := hide (fun i => HB1.out.trans ((HV.out i).mono HB1.out.size))
    have hbr : ∀ i, Bsg (V i) w.heap.size #[.int .i64 kind, .int .i64 first, .slice ao recs.length cap] := fun i => ((HV.out i).block _ (by omega)).trans HX1.out
    have d1 : ∀ i, (V i).cell? ⟨w.heap.size, 1, none⟩ = some (.int .i64 first) := fun i => ((hbr i).cell 1).1
    have d2 : ∀ i, (V i).cell? ⟨w.heap.size, 2, none⟩ = some (.slice ao recs.length cap) := fun i => ((hbr i).cell 2).1
    obtain ⟨bg, hbg⟩ : ∃ bg, bg = decide (RecsOk recs (recs.getD 0 zeroR).idx) := ⟨_, rfl⟩
    have HCA : Hid (∀ i, Calls Tryd.prog 19 #[.slice ao recs.length cap] (V i) fun e w' => e = .returned (.bool bg) ∧ ∃ m, w' = V m) := hide (fun i => by
      rw [hbg]
      exact (HGO.out (V i) (HBV.out i)).mono fun e w' h => ⟨h.1, HM.out w' ((HV.out i).trans (h.2.mono (HV.out i).size))⟩)
    have HBG := hide hbg
    clear hV hmem hbr hbg HGO
    cases bg with
    | false =>
      have HBT : Hid (bad = true) := hide (by
        rw [HBAD.out, decide_eq_false (fun h => of_decide_eq_false HBG.out.symm (HRH.out.1 h).1)]
        rfl)
      refine wp_region_cls V i0 (by kernel_rfl) (by kernel_rfl) hi0.symm ?_
      repeat (go_big_quiet_step ((go_at_call 19; exact HCA.out _)))
      refine wpQuiet_nil ?_
      intro _ hw'
      obtain ⟨nq, hw''⟩ := hw'
      subst hw''
      go_wp2_with fail
      go_meet
      exact ⟨by rw [HBT.out], hide (HV.out _)⟩
    | true =>
      have HGT := hide (of_decide_eq_true HBG.out.symm)
      by_cases hl0 : recs.length = 0
      · have HBT : Hid (bad = false) := hide (by
          rw [HBAD.out, decide_eq_true (HRH.out.2 ⟨HGT.out, .inl (List.eq_nil_of_length_eq_zero hl0)⟩)]
          rfl)
        have hd0 : decide ((0 : Int) < (recs.length : Int)) = false := decide_eq_false (by omega)
        have hd0' : decide (0 < recs.length) = false := decide_eq_false (by omega)
        clear hpos0 hl0
        refine wp_region_cls V i0 (by kernel_rfl) (by kernel_rfl) hi0.symm ?_
        repeat (go_big_quiet_step ((go_at_call 19; exact HCA.out _)))
        refine wpQuiet_nil ?_
        intro _ hw'
        obtain ⟨nq, hw''⟩ := hw'
        subst hw''
        go_wp2_with fail
        go_meet
        exact ⟨by rw [HBT.out], hide (HV.out _)⟩
      have hpos : (0 : Int) < (recs.length : Int) := by omega
      have hposn : 0 < recs.length := by omega
      rcases HAO.out with h0 | ⟨c, off, rfl, hc⟩
      · rw [h0] at hl0; simp at hl0
      have hc0 := hc 0 (by omega)
      have e0 : ∀ i, (V i).cell? ⟨c, off, none⟩ = some (.int .i64 (recs.getD 0 zeroR).idx) := fun i => by
        have h := (hc0.keep ((HBV.out i).block c hc0.lt)).1
        rwa [Nat.zero_mul, Nat.add_zero] at h
      clear hc hc0
      have HNE : Hid (recs ≠ []) := hide (fun e => by rw [e] at hl0; simp at hl0)
      by_cases hix : (recs.getD 0 zeroR).idx = first
      · have HBT : Hid (bad = false) := hide (by
          rw [HBAD.out, decide_eq_true (HRH.out.2 ⟨HGT.out, .inr hix⟩)]
          rfl)
        have hneb : ((recs.getD 0 zeroR).idx != first) = false := by rw [bne_eq_false_iff_eq]; exact hix
        generalize (recs.getD 0 zeroR).idx = ix at *
        clear hpos0 hl0 hix
        refine wp_region_cls V i0 (by kernel_rfl) (by kernel_rfl) hi0.symm ?_
        repeat (go_big_quiet_step ((go_at_call 19; exact HCA.out _)))
        refine wpQuiet_nil ?_
        intro _ hw'
        obtain ⟨nq, hw''⟩ := hw'
        subst hw''
        go_wp2_with fail
        go_meet
        exact ⟨by rw [HBT.out], hide (HV.out _)⟩
      · have HBT : Hid (bad = true) := hide (by
          rw [HBAD.out, decide_eq_false (fun h => by
            rcases (HRH.out.1 h).2 with h2 | h2
            · exact HNE.out h2
            · exact hix h2)]
          rfl)
        have hneb : ((recs.getD 0 zeroR).idx != first) = true := by rw [bne_iff_ne]; exact hix
        generalize (recs.getD 0 zeroR).idx = ix at *
        clear hpos0 hl0 hix
        refine wp_region_cls V i0 (by kernel_rfl) (by kernel_rfl) hi0.symm ?_
        repeat (go_big_quiet_step ((go_at_call 19; exact HCA.out _)))
        refine wpQuiet_nil ?_
        intro _ hw'
        obtain ⟨nq, hw''⟩ := hw'
        subst hw''
        go_wp2_with fail
        go_meet
        exact ⟨by rw [HBT.out], hide (HV.out _)⟩
  case rest =>
    obtain ⟨rfl, HBW⟩ := hcut
    have HBR := hide (HB1.out.trans (HBW.out.mono HB1.out.size))
    have HXR := hide (HX1.out.below HBW.out (Nat.le_refl _))
    have HYR := hide ((HBW.out.block _ hn1).trans HY1.out)
    have hnr : w.heap.size + 1 < wc.heap.size := Nat.lt_of_lt_of_le hn1 HBW.out.size
    clear HBW HX1 HY1 HB1 HGO hn1
    cases bad with
    | true =>
      have HNO : Hid (¬ RecsOk recs first) := hide (fun h => by
        have := HBAD.out
        rw [decide_eq_true h] at this
        cases this)
      have HS0 : Hid (SE = 1 ∧ SL = []) := hide ⟨by rw [HSE.out, if_neg HNO.out], HSN.out HNO.out⟩
      go_wp2
      go_ret2
      rw [HS0.out.1, HS0.out.2]
      exact ⟨_, rfl, Own.nil _ _, HBR.out⟩
    | false =>
      have HOK : Hid (RecsOk recs first) := hide (by
        have h := HBAD.out
        by_cases hr : RecsOk recs first
        · exact hr
        · rw [decide_eq_false hr] at h
          cases h)
      have HS0 : Hid (SE = 0) := hide (by rw [HSE.out, if_pos HOK.out])
      have hbs : BS.length ≤ 999999 := by
        rcases HBN.out with h | h
        · exact h
        · exact absurd HOK.out h
      have HLIM : Hid (([H] : List (List UInt8)).length + BS.length ≤ 1000001) := hide (by rw [List.length_singleton]; omega)
      have HBL' := hide (HBL.out HOK.out)
      have HFO' := hide (HFO.out HOK.out)
      have HFR' := hide (HFR.out HOK.out)
      clear HBL HFO HFR HOK HSE HSN HBN HBAD HRH HAO hpos0
      have HBD : Hid (Below wc.heap.size wc wc.drew) := hide ((Below.refl _ _).drew)
      have HKA : Hid (∀ W, Below wc.heap.size wc W → W.cell? ⟨w.heap.size + 1, 0, none⟩ = some (.int .i64 v) ∧ W.cell? ⟨w.heap.size + 1, 1, none⟩ = some (.int .i64 kind) ∧ W.cell? ⟨w.heap.size + 1, 2, none⟩ = some (.int .i64 first) ∧ W.cell? ⟨w.heap.size, 2, none⟩ = some (.slice ao recs.length cap)) := hide (fun W hb => by
        have h1 := (hb.block _ hnr).trans HYR.out
        have h2 := HXR.out.below hb (Nat.le_refl _)
        exact ⟨cell_of_row _ _ 0 _ _ _ h1, cell_of_row _ _ 1 _ _ _ h1, cell_of_row _ _ 2 _ _ _ h1, (h2.cell 2).1⟩)
      have HK0 := hide (HKA.out _ HBD.out)
      have HWB : Hid (∀ W, Below wc.heap.size wc W → Below w.heap.size w W) := hide (fun W h => HBR.out.trans (h.mono HBR.out.size))
      clear HXR HYR
      go_upto_region 7 with fail
      go_cut [8] (fun x wd => Hid (OwnL wd wc.heap.size x ([H] ++ BS)) ∧ Hid (Below wc.heap.size wc wd))
      case first =>
        go_region_held2 (fun w' => w'.cell? ⟨w.heap.size + 1, 0, none⟩ = some (.int .i64 v) ∧ w'.cell? ⟨w.heap.size + 1, 1, none⟩ = some (.int .i64 kind) ∧ w'.cell? ⟨w.heap.size + 1, 2, none⟩ = some (.int .i64 first) ∧ w'.cell? ⟨w.heap.size, 2, none⟩ = some (.slice ao recs.length cap)) (first | exact HK0.out | exact HK2.out | exact HKX.out | exact HK3.out | exact HKY.out | exact HK5.out)
          (first
            | (go_at_call 20; refine (HDA.out wc.drew).mono ?_; rintro e W2 ⟨v2, rfl, ho2, hb2⟩; have HB2 := hide (HBD.out.trans hb2); have HK2 := hide (HKA.out W2 HB2.out); have HO2 : Hid (Own W2 wc.heap.size v2 H) := hide ho2; obtain ⟨a2, c2, rfl, -⟩ := ho2.rd; have HBX : Hid (Below wc.heap.size wc (W2.alloc (.cells #[.slice a2 H.length c2] 26))) := hide (HB2.out.alloc HB2.out.size _); have HKX := hide (HKA.out _ HBX.out); clear ho2 hb2)
            | (go_at_call 21; refine (HBL'.out W2 (HWB.out _ HB2.out)).mono ?_; rintro e W3 ⟨v3, rfl, ho3, hb3⟩; have HB3 := hide (HB2.out.trans (hb3.mono HB2.out.size)); have HK3 := hide (HKA.out W3 HB3.out); have HO3 := hide (HO2.out.below hb3 (Nat.le_refl _)); have HL3 := hide (ho3.mono HB2.out.size); obtain ⟨a3, c3, rfl, -⟩ := ho3.rd; have HBY : Hid (Below wc.heap.size wc (W3.alloc (.cells #[.slice a2 H.length c2] 26))) := hide (HB3.out.alloc HB3.out.size _); have HKY := hide (HKA.out _ HBY.out); have HRA := hide (OwnL.one HO3.out HB3.out.size W3.heap.size rfl); have HRB : Hid (OwnL (W3.alloc (.cells #[.slice a2 H.length c2] 26)) wc.heap.size _ BS) := hide (HL3.out.below ((Below.refl W3.heap.size W3).alloc (Nat.le_refl _) (.cells #[.slice a2 H.length c2] 26)) (Nat.le_refl _)); have HSY := hide HBY.out.size; clear ho3 hb3)
            | (go_at_call 21; refine (HBL'.out (W2.alloc (.cells #[.slice a2 H.length c2] 26)) (HWB.out _ HBX.out)).mono ?_; rintro e W3 ⟨v3, rfl, ho3, hb3⟩; have HB3 := hide (HBX.out.trans (hb3.mono HBX.out.size)); have HK3 := hide (HKA.out W3 HB3.out); have HRA := hide ((OwnL.one HO2.out HB2.out.size W2.heap.size rfl).below hb3 (Nat.le_refl _)); have HRB := hide (ho3.mono HBX.out.size); have HSY := hide HB3.out.size; obtain ⟨a3, c3, rfl, -⟩ := ho3.rd; clear ho3 hb3)
            | (refine step_append_rows (by rfl) _ _ (by rfl) wc.heap.size _ [H] (by rfl) HRA.out _ BS (by rfl) HRB.out HLIM.out HSY.out ?_; intro v5 W5 ho5 hb5; have HB5 := hide ((by first | exact HBY.out | exact HB3.out : Below wc.heap.size wc _).trans hb5); have HK5 := hide (HKA.out W5 HB5.out); have HO5 := hide ho5; clear ho5 hb5))
        all_goals
          go_wp2_with fail
          go_meet
          exact ⟨HO5, HB5⟩
      case rest =>
        obtain ⟨HO5, HB5⟩ := hcut
        have HS5 := hide HB5.out.size
        have hpl : ([H] ++ BS).length ≤ 1000000 := by rw [List.length_append, List.length_singleton]; omega
        generalize [H] ++ BS = PS at *
        clear HKA HK0 HDA HBL' hnr HBD
        go_wp2_with fail
        refine (HFO'.out _ _ HO5.out.rd).mono ?_
        rintro e W6 ⟨v6, rfl, ho6, hb6⟩
        have HY6 := hide (ho6.mono HS5.out)
        have HL6 := hide (HO5.out.below hb6 (Nat.le_refl _))
        have HB6 := hide (HB5.out.trans (hb6.mono HS5.out))
        have hs6 := HB6.out.size
        obtain ⟨a6, c6, rfl, -⟩ := ho6.rd
        clear ho6 hb6 HO5 HB5 HS5 HFO'
        go_wp2_with (at_builtin; refine wpList_append_snoc _ rfl _ _ rfl _ _ PS rfl HL6.out _ FT rfl HY6.out hpl hs6 ?_)
        intro v7 W7 ho7 hb7
        have HL7 := hide ho7.rd
        have HB7 := hide (HB6.out.trans hb7)
        clear ho7 hb7 HL6 HY6 HB6
        go_wp2_with fail
        refine (HFR'.out _ _ HL7.out).mono ?_
        rintro e W8 ⟨v8, rfl, ho8, hb8⟩
        have HBW := hide (HWB.out _ HB7.out)
        have HO8 := hide (ho8.mono HBW.out.size)
        have HB8 := hide (HBW.out.trans (hb8.mono HBW.out.size))
        clear ho8 hb8
        go_wp2
        go_ret2
        rw [HS0.out]
        exact ⟨_, rfl, HO8.out, HB8.out⟩

end Go.Proofs.YtddhcohjmgdajaaDoor
