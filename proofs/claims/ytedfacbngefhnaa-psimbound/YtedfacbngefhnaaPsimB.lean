/- The engine that copies: a copy is made. -/
import Derived.Test.YtedfacbngefhnaaPsimA
import Derived.Lib.LazyBuf
namespace Go.Proofs.Ytedfacbngefhnaa
open Go.RowKit Go.Maps

theorem ownsRow_mono {w : World} {B B' n s : Nat} {t : TypeId} {v : Value} {xs : List Value} (h : w.ownsRow B t s v n xs) (hB : B' ≤ B) : w.ownsRow B' t s v n xs :=
  ⟨h.1, h.2.imp id fun ⟨g, cap, cur, a, b, r⟩ => ⟨g, cap, cur, a, Nat.le_trans hB b, r⟩⟩

theorem only_six (w : World) (b i0 i1 i2 i3 i4 i5 : Nat) (v0 v1 v2 v3 v4 v5 : Value) : Only (fun j => j = b) w ((((((w.setCell ⟨b, i0, none⟩ v0).setCell ⟨b, i1, none⟩ v1).setCell ⟨b, i2, none⟩ v2).setCell ⟨b, i3, none⟩ v3).setCell ⟨b, i4, none⟩ v4).setCell ⟨b, i5, none⟩ v5) :=
  ((((((Only.refl (fun j => j = b) w).setCell i0 (fun _ => rfl) v0).setCell i1 (fun _ => rfl) v1).setCell i2 (fun _ => rfl) v2).setCell i3 (fun _ => rfl) v3).setCell i4 (fun _ => rfl) v4).setCell i5 (fun _ => rfl) v5

theorem info_an : (Try.prog.info? 91).map (fun i => (i.zero, i.size, i.bytes)) = some (some (.agg #[.int .i64 0, .int .i64 0]), 2, 16) := by kernel_rfl

theorem anC_length (f : Nat → An) (n : Nat) : (anC f n).length = n * 2 := cellsF_length (c := fun i => anL (f i)) (s := 2) (fun _ => rfl) 0 n

theorem cellsF_one {c : Nat → List Value} (h : ∀ i, ∀ u ∈ c i, u.oneCell' = true) : ∀ i n, ∀ u ∈ cellsF c i n, u.oneCell' = true
  | _, 0, u, hu => by simp [cellsF] at hu
  | i, n + 1, u, hu => by
    rw [cellsF] at hu
    rcases List.mem_append.1 hu with a | a
    · exact h i u a
    · exact cellsF_one h (i + 1) n u a

theorem anC_one (f : Nat → An) (n : Nat) : ∀ u ∈ anC f n, u.oneCell' = true := cellsF_one (fun i u hu => by
  simp [anL] at hu
  rcases hu with rfl | rfl <;> rfl) 0 n

set_option maxRecDepth 100000 in
theorem run_append_an (w : World) (ty : TypeId) (B : Nat) (hB : B ≤ w.heap.size) (g n c : Nat) (f : Nat → An) (hr : w.ownsRow 0 91 2 (.slice (some ⟨g, 0, none⟩) n c) n (anC f n)) (hn : n ≤ 64) (b : Nat) (hb : B ≤ b) (he : w.heap[b]? = some (.cells #[] 91 (0, 0))) :
    ∃ v' w', (Builtin.append_ #[67, 67] ty #[.slice (some ⟨b, 0, none⟩) 0 0, .slice (some ⟨g, 0, none⟩) n c]).run Try.prog w = .ok v' w' ∧ w'.ownsRow B 91 2 v' n (anC f n) ∧ Below B w w' := by
  obtain ⟨i0, hi, hz0, hz1, hz2⟩ := info_parts info_an
  have ho : w.ownsRow B 91 2 (.slice (some ⟨b, 0, none⟩) 0 0) 0 [] := ⟨rfl, .inr ⟨b, 0, #[], rfl, hb, he, Nat.le_refl _, Nat.zero_le _, rfl, rfl⟩⟩
  obtain ⟨v', w', hrun, ho', hg, _⟩ := run_append_own (P := Try.prog) w B 67 ty 91 i0 _ 2 16 Try.underlying67 hi hz0 hz1 hz2 rfl (by decide) _ 0 [] ho ⟨g, 0, none⟩ n c (anC f n)
    (anC_length f n) (fun j u hu => World.ownsRow.cells hr (g := g) rfl j u hu) (anC_one f n) (by unfold maxLen; omega) (by omega) hB
  refine ⟨v', w', hrun, by rw [Nat.zero_add, List.nil_append] at ho'; exact ho', ?_⟩
  exact (Below.refl _ _).grown hg hB (fun k hk => (World.ownsRow.lt ho k hk).1)

set_option maxRecDepth 100000 in
theorem wpList_append_an (w : World) {ops : Array Oper} {rest : List Oper} {o : Oper} {a : Act} {Q : Exit → Act → World → Prop} (hgd : o.guard = none) (s x : Operand)
    (ho : o.op = .call { callee := .builtin .append, args := #[s, x], argTypes := #[67, 67] })
    (B : Nat) (hB : B ≤ w.heap.size) (g n c b : Nat) (f : Nat → An) (hs : a.eval s = .slice (some ⟨b, 0, none⟩) 0 0) (hx : a.eval x = .slice (some ⟨g, 0, none⟩) n c) (hr : w.ownsRow 0 91 2 (.slice (some ⟨g, 0, none⟩) n c) n (anC f n)) (hn : n ≤ 64) (hb : B ≤ b) (he : w.heap[b]? = some (.cells #[] 91 (0, 0)))
    (h : ∀ v' w', w'.ownsRow B 91 2 v' n (anC f n) → Below B w w' → wpList Try.prog ops Q rest (a.put o.dst v') w') : wpList Try.prog ops Q (o :: rest) a w :=
  wpList_plain hgd fun _ hK => by
    obtain ⟨v', w', hrun, h2, h3⟩ := run_append_an w o.type B hB g n c f hr hn b hb he
    unfold Oper.wp execOp
    simp only [ho, resolve, invoke, builtin, Sem.run_bind, Sem.run_pure, Result.andThen_ok, List.map_toArray, List.map_cons, List.map_nil, hs, hx, hrun]
    exact hK _ _ (h v' w' h2 h3)

set_option maxRecDepth 100000 in
set_option maxHeartbeats 1000000 in
theorem cloneA_any (w : World) (g n c : Nat) (f : Nat → An) (hr : w.ownsRow 0 91 2 (.slice (some ⟨g, 0, none⟩) n c) n (anC f n)) (hn : n ≤ 64) :
    Calls Try.prog 52 #[.slice (some ⟨g, 0, none⟩) n c] w fun e w' => ∃ v', e = .returned v' ∧ w'.ownsRow w.heap.size 91 2 v' n (anC f n) ∧ Below w.heap.size w w' := by
  have HR := hide hr
  have HN := hide hn
  have hnil : ∀ w, (binOp .eql 67 (.slice (some ⟨g, 0, none⟩) n c) (.slice none 0 0)).run Try.prog w = .ok (.bool false) w := fun w => run_eql_slice_nil w _ _ (some ⟨g, 0, none⟩) _ _ Try.underlying67
  have HB0 : Hid (∀ X, Below w.heap.size w (w.alloc X)) := fun X => (Below.refl _ _).alloc (Nat.le_refl _) X
  have HO0 : Hid ((w.alloc (.cells #[] 91)).ownsRow 0 91 2 (.slice (some ⟨g, 0, none⟩) n c) n (anC f n)) := hide (World.ownsRow.alloc hr _)
  clear hr hn
  go_enter Try.func52, Try.ntmps52
  go_wp2_with (at_builtin; refine wpList_append_an _ rfl _ _ rfl w.heap.size (by simp) g n c w.heap.size f rfl rfl HO0.out HN.out (Nat.le_refl _) (heap_alloc_new _ _) ?_)
  intro v1 W1 ho1 hb1
  have HO1 := hide ho1
  have HB1 := hide ((HB0.out _).trans hb1)
  clear ho1 hb1
  go_wp2
  go_ret
  exact ⟨_, rfl, HO1.out, HB1.out⟩

set_option maxRecDepth 100000 in
set_option maxHeartbeats 1000000 in
theorem another_any (w : World) (k en : Int) (sh : Bool) (a0 : Option Addr) (n0 c0 : Nat) (a1 : Option Addr) (n1 c1 : Nat) (g n c : Nat) (f : Nat → An) (hr : w.ownsRow 0 91 2 (.slice (some ⟨g, 0, none⟩) n c) n (anC f n)) (hn : n ≤ 64) :
    Calls Try.prog 47 #[.agg #[.int .i64 k, .slice a0 n0 c0, .bool sh, .int .i64 en, .slice (some ⟨g, 0, none⟩) n c, .slice a1 n1 c1]] w fun e w' => ∃ v', e = .returned (.agg #[.int .i64 k, .slice a0 n0 c0, .bool sh, .int .i64 en, v', .slice none 0 0]) ∧ w'.ownsRow w.heap.size 91 2 v' n (anC f n) ∧ Below w.heap.size w w' := by
  obtain ⟨W0, hW0⟩ : ∃ W0, W0 = (w.alloc (.cells #[.int .i64 k, .slice a0 n0 c0, .bool sh, .int .i64 en, .slice (some ⟨g, 0, none⟩) n c, .slice a1 n1 c1] 69)).alloc (.cells #[.int .i64 0, .slice none 0 0, .bool false, .int .i64 0, .slice none 0 0, .slice none 0 0] 69) := ⟨_, rfl⟩
  have hs1 : (w.alloc (.cells #[.int .i64 k, .slice a0 n0 c0, .bool sh, .int .i64 en, .slice (some ⟨g, 0, none⟩) n c, .slice a1 n1 c1] 69)).heap.size = w.heap.size + 1 := by simp
  have hs0 : W0.heap.size = w.heap.size + 2 := by rw [hW0]; simp
  have hb0 : Below w.heap.size w W0 := by rw [hW0]; exact ((Below.refl _ _).alloc (Nat.le_refl _) _).alloc (by simp) _
  have hx0 : Bk 69 W0 w.heap.size #[.int .i64 k, .slice a0 n0 c0, .bool sh, .int .i64 en, .slice (some ⟨g, 0, none⟩) n c, .slice a1 n1 c1] := by
    rw [hW0]
    exact Bk.keep (heap_alloc_new _ _) (Below.heap_alloc _ _ _ (by simp))
  have hy0 : Bk 69 W0 (w.heap.size + 1) #[.int .i64 0, .slice none 0 0, .bool false, .int .i64 0, .slice none 0 0, .slice none 0 0] := by
    rw [hW0, ← hs1]
    exact heap_alloc_new _ _
  have hrow : W0.drew.ownsRow 0 91 2 (.slice (some ⟨g, 0, none⟩) n c) n (anC f n) := ownsRow_keep hr fun g' hg => hb0.block g' (row_bk hr hg).choose_spec.lt
  have HC := hide (cloneA_any W0.drew g n c f hrow hn)
  have HE : Hid (∀ v' W, W.ownsRow W0.drew.heap.size 91 2 v' n (anC f n) → Below W0.drew.heap.size W0.drew W → (Bk 69 W w.heap.size #[.int .i64 k, .slice a0 n0 c0, .bool sh, .int .i64 en, .slice (some ⟨g, 0, none⟩) n c, .slice a1 n1 c1] ∧ Bk 69 W (w.heap.size + 1) #[.int .i64 0, .slice none 0 0, .bool false, .int .i64 0, .slice none 0 0, .slice none 0 0]) ∧
      ∀ W', Only (fun j => j = w.heap.size + 1) W W' → W'.ownsRow w.heap.size 91 2 v' n (anC f n) ∧ Below w.heap.size w W') := hide fun v' W ho hb => by
    have hd : W0.drew.heap.size = W0.heap.size := rfl
    have hx1 : Bk 69 W0.drew w.heap.size #[.int .i64 k, .slice a0 n0 c0, .bool sh, .int .i64 en, .slice (some ⟨g, 0, none⟩) n c, .slice a1 n1 c1] := hx0.keep rfl
    have hy1 : Bk 69 W0.drew (w.heap.size + 1) #[.int .i64 0, .slice none 0 0, .bool false, .int .i64 0, .slice none 0 0, .slice none 0 0] := hy0.keep rfl
    refine ⟨⟨hx1.keep (hb.block _ hx1.lt), hy1.keep (hb.block _ hy1.lt)⟩, fun W' hW' => ⟨?_, ?_⟩⟩
    · have h2 := ownsRow_keep (w' := W') ho fun g' hg => hW'.block g' (row_bk ho hg).choose_spec.lt fun e1 => by
        have := (World.ownsRow.lt ho g' hg).1
        omega
      exact ownsRow_mono h2 (by omega)
    · have hbd : Below w.heap.size w W0.drew := hb0.drew
      exact ((hbd.trans (hb.mono (by omega))).trans (Only.below hW' (by have := hb.size; omega) fun k hk => by omega))
  have HW0 := hide hW0
  obtain ⟨x0, -⟩ := hx0.cell 0 rfl
  obtain ⟨x1, -⟩ := hx0.cell 1 rfl
  obtain ⟨x2, -⟩ := hx0.cell 2 rfl
  obtain ⟨x3, -⟩ := hx0.cell 3 rfl
  obtain ⟨x4, -⟩ := hx0.cell 4 rfl
  have HS : Hid (W0.drew.cell? ⟨w.heap.size, 0, none⟩ = some (.int .i64 k) ∧ W0.drew.cell? ⟨w.heap.size, 1, none⟩ = some (.slice a0 n0 c0) ∧ W0.drew.cell? ⟨w.heap.size, 2, none⟩ = some (.bool sh) ∧ W0.drew.cell? ⟨w.heap.size, 3, none⟩ = some (.int .i64 en) ∧ W0.drew.cell? ⟨w.heap.size, 4, none⟩ = some (.slice (some ⟨g, 0, none⟩) n c)) := ⟨x0, x1, x2, x3, x4⟩
  clear hr hn hs1 hs0 hb0 hx0 hy0 hrow hW0
  go_enter Try.func47, Try.ntmps47
  go_upto_region 1 with fail
  rw [← HW0.out]
  go_region_held (fun W => W.cell? ⟨w.heap.size, 0, none⟩ = some (.int .i64 k) ∧ W.cell? ⟨w.heap.size, 1, none⟩ = some (.slice a0 n0 c0) ∧ W.cell? ⟨w.heap.size, 2, none⟩ = some (.bool sh) ∧ W.cell? ⟨w.heap.size, 3, none⟩ = some (.int .i64 en) ∧ W.cell? ⟨w.heap.size, 4, none⟩ = some (.slice (some ⟨g, 0, none⟩) n c))
    (first | (with_reducible exact HS.out) | (with_reducible exact HS2.out) | exact HS3.out _ (only_six _ _ _ _ _ _ _ _ _ _ _ _ _ _))
    (first | (go_at_call 52; refine (HC.out).mono ?_; rintro r W1 ⟨v', rfl, ho1, hb1⟩; obtain ⟨a', c', rfl⟩ := row_form ho1; have HE1 := hide (HE.out _ _ ho1 hb1); have HS3 : Hid (∀ W', Only (fun j => j = w.heap.size + 1) W1 W' → W'.cell? ⟨w.heap.size, 0, none⟩ = some (.int .i64 k) ∧ W'.cell? ⟨w.heap.size, 1, none⟩ = some (.slice a0 n0 c0) ∧ W'.cell? ⟨w.heap.size, 2, none⟩ = some (.bool sh) ∧ W'.cell? ⟨w.heap.size, 3, none⟩ = some (.int .i64 en) ∧ W'.cell? ⟨w.heap.size, 4, none⟩ = some (.slice (some ⟨g, 0, none⟩) n c)) := hide (fun W' hW => by have hk := HE1.out.1.1.only hW (by omega); exact ⟨(hk.cell 0 rfl).1, (hk.cell 1 rfl).1, (hk.cell 2 rfl).1, (hk.cell 3 rfl).1, (hk.cell 4 rfl).1⟩); have HS2 : Hid (W1.cell? ⟨w.heap.size, 0, none⟩ = some (.int .i64 k) ∧ W1.cell? ⟨w.heap.size, 1, none⟩ = some (.slice a0 n0 c0) ∧ W1.cell? ⟨w.heap.size, 2, none⟩ = some (.bool sh) ∧ W1.cell? ⟨w.heap.size, 3, none⟩ = some (.int .i64 en) ∧ W1.cell? ⟨w.heap.size, 4, none⟩ = some (.slice (some ⟨g, 0, none⟩) n c)) := ⟨(HE1.out.1.1.cell 0 rfl).1, (HE1.out.1.1.cell 1 rfl).1, (HE1.out.1.1.cell 2 rfl).1, (HE1.out.1.1.cell 3 rfl).1, (HE1.out.1.1.cell 4 rfl).1⟩; obtain ⟨y0, z0⟩ := HE1.out.1.2.cell 0 rfl; obtain ⟨y1, z1⟩ := HE1.out.1.2.cell 1 rfl; obtain ⟨y2, z2⟩ := HE1.out.1.2.cell 2 rfl; obtain ⟨y3, z3⟩ := HE1.out.1.2.cell 3 rfl; obtain ⟨y4, z4⟩ := HE1.out.1.2.cell 4 rfl; obtain ⟨y5, z5⟩ := HE1.out.1.2.cell 5 rfl; clear ho1 hb1))
  all_goals
    have HB6 := hide ((HE1.out.1.2.set 0 (.int .i64 k)).set 1 (.slice a0 n0 c0) |>.set 2 (.bool sh) |>.set 3 (.int .i64 en) |>.set 4 (.slice a' n c') |>.set 5 (.slice none 0 0))
    have HO6 := hide (only_six W1 (w.heap.size + 1) 0 1 2 3 4 5 (.int .i64 k) (.slice a0 n0 c0) (.bool sh) (.int .i64 en) (.slice a' n c') (.slice none 0 0))
    obtain ⟨W6, hW6⟩ : ∃ W6, W6 = (((((W1.setCell ⟨w.heap.size + 1, 0, none⟩ (.int .i64 k)).setCell ⟨w.heap.size + 1, 1, none⟩ (.slice a0 n0 c0)).setCell ⟨w.heap.size + 1, 2, none⟩ (.bool sh)).setCell ⟨w.heap.size + 1, 3, none⟩ (.int .i64 en)).setCell ⟨w.heap.size + 1, 4, none⟩ (.slice a' n c')).setCell ⟨w.heap.size + 1, 5, none⟩ (.slice none 0 0) := ⟨_, rfl⟩
    rw [← hW6] at HB6 HO6 ⊢
    have r0 := (HB6.out.cell 0 rfl).1
    have r1 := (HB6.out.cell 1 rfl).1
    have r2 := (HB6.out.cell 2 rfl).1
    have r3 := (HB6.out.cell 3 rfl).1
    have r4 := (HB6.out.cell 4 rfl).1
    have r5 := (HB6.out.cell 5 rfl).1
    clear y0 y1 y2 y3 y4 y5 z0 z1 z2 z3 z4 z5 hW6
    go_wp2
    refine bodyPost_ret (v := .agg #[.int .i64 k, .slice a0 n0 c0, .bool sh, .int .i64 en, .slice a' n c', .slice none 0 0]) (by simp [results, Try.results47, go_sem, r0, r1, r2, r3, r4, r5]) rfl ?_
    have hend := HE1.out.2 _ HO6.out
    exact ⟨_, rfl, hend.1, hend.2⟩

set_option maxRecDepth 100000 in
set_option maxHeartbeats 1000000 in
theorem endP_any {w : World} {q p g n c : Nat} {cs : Array Value} (hq : Bk 71 w q cs) (h0 : cs[0]? = some (.int .i64 (p : Int))) (h14 : cs[14]? = some (.slice (some ⟨g, 0, none⟩) n c)) (hp : p < n) (z : Value) (h8 : cs[8]? = some z) (R : Int) (hc : w.cell? ⟨g, p * 2 + 1, none⟩ = some (.int .i64 R)) :
    Calls Try.prog 48 #[ptr q] w fun r w' => r = .returned .nilFunc ∧ ∃ k, w' = (w.setCell ⟨q, 8, none⟩ (.int .i64 R)).drewN k := by
  have c0 := (hq.cell 0 h0).1
  have c14 := (hq.cell 14 h14).1
  have c8 := (hq.cell 8 h8).1
  have f8 := (hq.cell 8 h8).2
  have hpk : (p : Int) < (n : Int) := by omega
  clear hq h0 h14 h8 hp
  go_enter Try.func48, Try.ntmps48
  go_wp2
  go_region
  all_goals
    go_wp2
    go_ret
    exact ⟨rfl, 1, rfl⟩

end Go.Proofs.Ytedfacbngefhnaa
