/- The engine that copies: how many steps; the log and the state. -/
import Derived.Test.YtedfacbngefhnaaPsimK
namespace Go.Proofs.Ytedfacbngefhnaa
open Go.RowKit Go.Maps

set_option maxRecDepth 100000 in
set_option maxHeartbeats 1000000 in
theorem steps_any {K : Nat → Prop} {w : World} {eb : Nat} {e : Eg} {N : Nat} (h : EgM K w eb e N) (hN : N ≤ 150000) (p : Int) :
    Calls Try.prog 14 #[ptr eb, .int .i64 p] w fun r w' => r = .returned (.int .i64 (herlM.stepsOf e p)) ∧ Below w.heap.size w w' := by
  have HH := hide (has_any h p)
  obtain ⟨L, M, g, h1, h2, -⟩ := h
  obtain ⟨pb, pc, -, c0, c1, cp⟩ := h1.proc h2.G.n1
  by_cases hp : herlM.has e p
  · obtain ⟨q, rfl, -, hq⟩ := herlM.has_nat hp
    have hq : q < e.n := hq
    have hst : herlM.stepsOf e (q : Int) = (((e.ps q).did - (e.ps q).began : Nat) : Int) := herlM.stepsOf_nat hq
    rw [hst]
    rw [decide_eq_true hp] at HH
    have cq := cp q hq
    have hqi : (q : Int) < (e.n : Int) := by omega
    obtain ⟨Q, hQ⟩ : ∃ Q : Int, Q = (q : Int) := ⟨_, rfl⟩
    obtain ⟨D, hD⟩ : ∃ D : Int, D = ((e.ps q).did : Int) := ⟨_, rfl⟩
    obtain ⟨G, hG⟩ : ∃ G : Int, G = ((e.ps q).began : Int) := ⟨_, rfl⟩
    have c2 : w.cell? ⟨L.qs q, 3, none⟩ = some (.int .i64 G) := by rw [hG]; exact ((h1.pr q hq).cell 3 rfl).1
    have c3 : w.cell? ⟨L.l, 1, none⟩ = some (ptr L.m) := (h1.list.cell 1 rfl).1
    have HC : Hid (Calls Try.prog 29 #[ptr L.m, .int .i64 (q : Int)] w.drew fun r w' => r = .returned (.int .i64 D) ∧ w' = w.drew) := hide (by
      have := stepsM_any (h1.below ((Below.refl _ w).drew)).mac (q : Int) ⟨by omega, by have := (h1.mac.ok.s (q : Int)).2; have := h1.rel.procs; have := h1.mac.ok.procs.2; omega⟩
      rw [h1.rel.s q hq, ← hD] at this
      exact this)
    have sb := steps_bound h2 hq
    have hD2 : D ≤ 1000000 := by have := (h1.mac.ok.s (q : Int)).2; rw [h1.rel.s q hq] at this; omega
    have hw : IntKind.i64.wrap (D - G) = D - G := wrap_lit _ (by omega) (by omega)
    have HR : Hid ((((e.ps q).did - (e.ps q).began : Nat) : Int) = D - G) := hide (by omega)
    rw [HR.out]
    generalize L.qs q = qb at *
    generalize L.l = l at *
    generalize L.m = m at *
    have HS : Hid (∀ W, W = w.drew → W.cell? ⟨eb, 0, none⟩ = some (ptr l) ∧ W.cell? ⟨eb, 1, none⟩ = some (.slice (some ⟨pb, 0, none⟩) e.n pc) ∧ W.cell? ⟨pb, q, none⟩ = some (ptr qb) ∧ W.cell? ⟨qb, 3, none⟩ = some (.int .i64 G) ∧ W.cell? ⟨l, 1, none⟩ = some (ptr m)) := hide fun W hW => by rw [hW]; exact ⟨c0, c1, cq, c2, c3⟩
    clear hst hp cp h1 h2 hq hD hG HR sb hQ hD2
    go_enter Try.func14, Try.ntmps14
    go_wp2_with fail
    refine HH.out.mono ?_
    rintro r w' ⟨rfl, rfl⟩
    go_upto_region 3 with fail
    go_region_held (fun W => W.cell? ⟨eb, 0, none⟩ = some (ptr l) ∧ W.cell? ⟨eb, 1, none⟩ = some (.slice (some ⟨pb, 0, none⟩) e.n pc) ∧ W.cell? ⟨pb, q, none⟩ = some (ptr qb) ∧ W.cell? ⟨qb, 3, none⟩ = some (.int .i64 G) ∧ W.cell? ⟨l, 1, none⟩ = some (ptr m))
      (with_reducible exact HS.out _ rfl)
      (first | (go_at_call 29; refine (HC.out).mono ?_; rintro r W' ⟨rfl, rfl⟩))
    all_goals
      go_wp2
      go_ret
      exact ⟨rfl, (Below.refl _ _).drew⟩
  · have hst : herlM.stepsOf e p = 0 := by unfold Mod.stepsOf; rw [if_neg hp]
    rw [hst]
    rw [decide_eq_false hp] at HH
    clear hp cp h1 h2 hst
    go_enter Try.func14, Try.ntmps14
    go_wp2_with fail
    refine HH.out.mono ?_
    rintro r w' ⟨rfl, rfl⟩
    go_wp2
    go_ret
    exact ⟨rfl, Below.refl _ _⟩

set_option maxRecDepth 100000 in
theorem log_any {K : Nat → Prop} {w : World} {eb : Nat} {e : Eg} {N : Nat} (h : EgM K w eb e N) (hN : N ≤ 10000) :
    Calls Try.prog 15 #[ptr eb] w fun r w' => ∃ v', r = .returned v' ∧ OwnR w' w.heap.size v' e.log ∧ Below w.heap.size w w' := by
  obtain ⟨L, M, g, h1, h2, h3, -⟩ := h
  have hl := h3.log
  have HC := hide (cloneR_anyE L.lv e.log w (h1.log.rd h3.recs) (by omega))
  obtain ⟨a, c, hlv⟩ := row_form h1.log
  have c0 : w.cell? ⟨eb, 0, none⟩ = some (ptr L.l) := (h1.head.cell 0 rfl).1
  have c5 : w.cell? ⟨L.l, 11, none⟩ = some (.slice a e.log.length c) := by rw [← hlv]; exact (h1.list.cell 11 rfl).1
  rw [hlv] at HC
  clear h1 h2 h3 hlv hl hN
  go_enter Try.func15, Try.ntmps15
  go_wp2_with fail
  refine HC.out.mono ?_
  rintro r w' ⟨v', rfl, ho, hb⟩
  have HO := hide ho
  have HB := hide hb
  clear ho hb
  go_wp2
  go_ret
  exact ⟨_, rfl, HO.out, HB.out⟩

set_option maxRecDepth 100000 in
set_option maxHeartbeats 1000000 in
theorem state_any {K : Nat → Prop} {w : World} {eb : Nat} {e : Eg} {N : Nat} (h : EgM K w eb e N) :
    Calls Try.prog 19 #[ptr eb] w fun r w' => ∃ vl', r = .returned (.agg #[.int .i64 e.st.kind, vl', .bool e.st.shut, .int .i64 e.st.eng]) ∧ OwnI w' w.heap.size vl' e.st.L ∧ Below w.heap.size w w' := by
  obtain ⟨L, M, g, h1, h2, h3, -⟩ := h
  have hlen := may_len h2.G.st
  have HC : Hid (∀ W, Below w.heap.size w W → Calls Try.prog 33 #[L.sv] W fun e1 w' => ∃ v', e1 = .returned v' ∧ OwnI w' W.heap.size v' e.st.L ∧ Below W.heap.size W w') := fun W h => cloneI_any L.sv e.st.L W (h1.st.below h (Nat.le_refl _)) (by omega)
  have HBA : Hid (∀ x y, Below w.heap.size w ((w.alloc x).alloc y)) := fun x y => ((Below.refl _ _).alloc (Nat.le_refl _) x).alloc (by simp) y
  obtain ⟨sa, sn, sc, hsv⟩ : ∃ a n c, L.sv = .slice a n c := by
    obtain ⟨a, c, hv, _⟩ := h1.st
    exact ⟨a, _, c, hv⟩
  have c0 : w.cell? ⟨eb, 0, none⟩ = some (ptr L.l) := (h1.head.cell 0 rfl).1
  have c6 : w.cell? ⟨L.l, 4, none⟩ = some (.int .i64 e.st.kind) := (h1.list.cell 4 rfl).1
  have c7 : w.cell? ⟨L.l, 5, none⟩ = some (.slice sa sn sc) := by rw [← hsv]; exact (h1.list.cell 5 rfl).1
  have c8 : w.cell? ⟨L.l, 6, none⟩ = some (.bool e.st.shut) := (h1.list.cell 6 rfl).1
  have c9 : w.cell? ⟨L.l, 7, none⟩ = some (.int .i64 e.st.eng) := (h1.list.cell 7 rfl).1
  have heb := h1.head.lt
  have hll := h1.list.lt
  rw [hsv] at HC
  generalize L.l = lb at *
  clear h1 h2 h3 hlen hsv
  generalize e.st = s at *
  obtain ⟨kind, l, shut, eng⟩ := s
  dsimp only at HC c6 c8 c9 ⊢
  have d0 : (w.alloc (.cells #[.int .i64 0, .slice none 0 0, .bool false, .int .i64 0] 24)).cell? ⟨eb, 0, none⟩ = some (ptr lb) := (World.cell?_of_block (a := ⟨eb, 0, none⟩) (Below.heap_alloc w _ eb heb)).trans c0
  have d6 : (w.alloc (.cells #[.int .i64 0, .slice none 0 0, .bool false, .int .i64 0] 24)).cell? ⟨lb, 4, none⟩ = some (.int .i64 kind) := (World.cell?_of_block (a := ⟨lb, 4, none⟩) (Below.heap_alloc w _ lb hll)).trans c6
  have d7 : (w.alloc (.cells #[.int .i64 0, .slice none 0 0, .bool false, .int .i64 0] 24)).cell? ⟨lb, 5, none⟩ = some (.slice sa sn sc) := (World.cell?_of_block (a := ⟨lb, 5, none⟩) (Below.heap_alloc w _ lb hll)).trans c7
  have d8 : (w.alloc (.cells #[.int .i64 0, .slice none 0 0, .bool false, .int .i64 0] 24)).cell? ⟨lb, 6, none⟩ = some (.bool shut) := (World.cell?_of_block (a := ⟨lb, 6, none⟩) (Below.heap_alloc w _ lb hll)).trans c8
  have d9 : (w.alloc (.cells #[.int .i64 0, .slice none 0 0, .bool false, .int .i64 0] 24)).cell? ⟨lb, 7, none⟩ = some (.int .i64 eng) := (World.cell?_of_block (a := ⟨lb, 7, none⟩) (Below.heap_alloc w _ lb hll)).trans c9
  go_enter Try.func19, Try.ntmps19
  go_wp2_with fail
  refine (HC.out _ (HBA.out _ _)).mono ?_
  rintro r W1 ⟨v1, rfl, ho, hb1⟩
  have hbx : Box2 W1 w.heap.size _ _ := (Box2.made w _ _).below hb1 (by simp)
  have q0 := (hbx.r 0).1
  have q1 := (hbx.r 1).1
  have q2 := (hbx.r 2).1
  have q3 := (hbx.r 3).1
  have f1 := (hbx.r 1).2
  have r0 := (hbx.s 0).1
  have r1 := (hbx.s 1).1
  have r2 := (hbx.s 2).1
  have r3 := (hbx.s 3).1
  have s0 := (hbx.s 0).2
  have s1 := (hbx.s 1).2
  have s2 := (hbx.s 2).2
  have s3 := (hbx.s 3).2
  have HB1 := hide' ((HBA.out _ _).trans (hb1.mono (HBA.out _ _).size))
  have ho2 : OwnI W1 (w.heap.size + 1 + 1) v1 l := by
    have e : ∀ x y, ((w.alloc x).alloc y).heap.size = w.heap.size + 1 + 1 := fun x y => by simp
    rwa [e] at ho
  have HO := hide' ho2
  obtain ⟨ao, cap, rfl⟩ := ho2.shape
  clear hb1 hbx ho ho2
  go_wp2
  refine bodyPost_ret (v := .agg #[.int .i64 kind, .slice ao l.length cap, .bool shut, .int .i64 eng]) (by simp [results, Try.results19, go_sem, r0, r1, r2, r3]) rfl ?_
  exact ⟨_, rfl, (HO.out.five (w.heap.size + 1) w.heap.size (by omega) (by omega) _ _ _ _ _).mono (by omega), belowFive HB1.out (w.heap.size + 1) w.heap.size (by omega) (Nat.le_refl _) _ _ _ _ _⟩

end Go.Proofs.Ytedfacbngefhnaa
