/- The engine that copies: an operation is done on a copy. -/
import Derived.Test.YtedfacbngefhnaaPsimC
import Derived.Test.YtedfacbngefhnaaPsimAp
import Derived.Test.YtedfacbngefhnaaObjsOwn
namespace Go.Proofs.Ytedfacbngefhnaa
open Go.RowKit Go.Maps

set_option maxRecDepth 100000 in
set_option maxHeartbeats 4000000 in
theorem do_any {w : World} {lb p q n c g sq : Nat} {x sv fv : Value} {pc : Pc} (hq : Bk 71 w q (pcC lb p x sv (.slice (some ⟨g, 0, none⟩) n c) fv pc)) (hs : MayS pc.mst) (hst : RdI w sv pc.mst.L)
    (hrow : w.ownsRow 0 91 2 (.slice (some ⟨g, 0, none⟩) n c) n (anC pc.mlast n)) (hfr : OwnR w 0 fv pc.fresh) (hlen : pc.fresh.length ≤ 1000) (ha : pc.asked < n) (o : Opn) (hnum : pc.mst.L = [] ∨ ∀ b, sv.ownBlock = some b → b ≠ q ∧ b ≠ g ∧ fv.ownBlock ≠ some b) :
    Calls Try.prog 53 #[.pointer (some ⟨q, 10, none⟩), .int .i64 (pc.asked : Int), .int .i64 (sq : Int), opV o] w fun r w' => r = .returned (.tuple #[]) ∧ ∃ sv' fv', Bk 71 w' q (pcC lb p x sv' (.slice (some ⟨g, 0, none⟩) n c) fv' (doneP pc sq o)) ∧ RdI w' sv' (doneP pc sq o).mst.L ∧
      ((sv' = sv ∧ (doneP pc sq o).mst.L = pc.mst.L) ∨ ∀ j, sv'.ownBlock = some j → w.heap.size ≤ j) ∧ w'.ownsRow 0 91 2 (.slice (some ⟨g, 0, none⟩) n c) n (anC (doneP pc sq o).mlast n) ∧ OwnR w' 0 fv' (doneP pc sq o).fresh ∧
      (fv'.ownBlock = fv.ownBlock ∨ ∃ j, fv'.ownBlock = some j ∧ w.heap.size ≤ j) ∧ ((doneP pc sq o).mst.L = [] ∨ ∀ j, sv'.ownBlock = some j → fv'.ownBlock ≠ some j) ∧ Only (fun k => k = q ∨ k = g ∨ fv.ownBlock = some k) w w' := by
  obtain ⟨co, oa, ob⟩ := o
  unfold opV
  dsimp only
  obtain ⟨s', rs, hst'⟩ : ∃ s' rs, stepO pc.mst ⟨co, oa, ob⟩ = (s', rs) := ⟨_, _, rfl⟩
  have hdp : doneP pc sq ⟨co, oa, ob⟩ = { pc with mst := s', mlast := putN pc.mlast pc.asked ⟨sq, rs⟩, fresh := pc.fresh ++ [⟨0, pc.asked, sq, ⟨co, oa, ob⟩, rs⟩] } := by unfold doneP; rw [hst']
  rw [hdp]
  dsimp only
  obtain ⟨A, hA⟩ : ∃ A : Int, A = (pc.asked : Int) := ⟨_, rfl⟩
  obtain ⟨SQ, hSQ⟩ : ∃ SQ : Int, SQ = (sq : Int) := ⟨_, rfl⟩
  obtain ⟨sa, sc, hsv⟩ : ∃ a c, sv = .slice a pc.mst.L.length c := by
    obtain ⟨a, c, hv, _⟩ := hst
    exact ⟨a, c, hv⟩
  obtain ⟨fa, fc, hfv⟩ := row_form hfr
  have hx : Below w.heap.size w (w.alloc (.cells #[.int .i64 co, .int .i64 oa, .int .i64 ob] 26)) := (Below.refl _ _).alloc (Nat.le_refl _) _
  obtain ⟨W1, hW1⟩ : ∃ W1, W1 = w.alloc (.cells #[.int .i64 co, .int .i64 oa, .int .i64 ob] 26) := ⟨_, rfl⟩
  have hxb : Bk 26 W1 w.heap.size #[.int .i64 co, .int .i64 oa, .int .i64 ob] := by rw [hW1]; exact heap_alloc_new _ _
  rw [← hW1] at hx
  have hbd : Below w.heap.size w W1.drew := hx.trans ((Below.refl w.heap.size W1).drew)
  have hki := hs.i64k
  have hgl : g < w.heap.size := (row_bk hrow (g := g) rfl).choose_spec.lt
  have hql := hq.lt
  have hgq : g ≠ q := (row_bk hrow (g := g) rfl).choose_spec.ne hq (by decide)
  have hfl : ∀ k, fv.ownBlock = some k → k < w.heap.size ∧ k ≠ q ∧ k ≠ g := fun k hk => by
    obtain ⟨cs, hb⟩ := row_bk hfr hk
    exact ⟨hb.lt, hb.ne hq (by decide), hb.ne (row_bk hrow (g := g) rfl).choose_spec (by decide)⟩
  have HS : Hid (Calls Try.prog 56 #[.agg #[.int .i64 pc.mst.kind, sv, .bool pc.mst.shut, .int .i64 pc.mst.eng], .agg #[.int .i64 co, .int .i64 oa, .int .i64 ob]] W1.drew fun r w' => ∃ a n c, r = .returned (.tuple #[.agg #[.int .i64 s'.kind, .slice a n c, .bool s'.shut, .int .i64 s'.eng], .int .i64 rs]) ∧ RdI w' (.slice a n c) s'.L ∧ ((Value.slice a n c = sv ∧ s'.L = pc.mst.L) ∨ ∀ j, (Value.slice a n c).ownBlock = some j → w.heap.size ≤ j) ∧ Below W1.drew.heap.size W1.drew w') := hide (by
    have hl := may_len hs
    refine (step_any (.agg #[.int .i64 pc.mst.kind, sv, .bool pc.mst.shut, .int .i64 pc.mst.eng]) pc.mst ⟨co, oa, ob⟩ W1.drew ⟨sv, rfl, hst.below hbd (Nat.le_refl _), hki.1, hki.2⟩ (by omega)).mono fun r w' hd => ?_
    rw [hst'] at hd
    obtain ⟨vl', h1, h2, _, _, h5, h6⟩ := hd
    obtain ⟨a, c, hv, _⟩ := id h2
    subst hv
    refine ⟨a, _, c, h1, h2, ?_, h6⟩
    rw [lval_agg] at h5
    exact h5.imp id fun h5 j hj => Nat.le_trans hbd.size (h5 j hj))
  obtain ⟨U, hU⟩ : ∃ U, U = pc.fresh.length := ⟨_, rfl⟩
  have HFIN : Hid (∀ W2 a2 n2 e2 W3 W4, W3 = (((W2.setCell ⟨q, 10, none⟩ (.int .i64 s'.kind)).setCell ⟨q, 11, none⟩ (.slice a2 n2 e2)).setCell ⟨q, 12, none⟩ (.bool s'.shut)).setCell ⟨q, 13, none⟩ (.int .i64 s'.eng) → W4 = (W3.setCell ⟨g, pc.asked * 2, none⟩ (.int .i64 SQ)).setCell ⟨g, pc.asked * 2 + 1, none⟩ (.int .i64 rs) →
      RdI W2 (.slice a2 n2 e2) s'.L → ((Value.slice a2 n2 e2 = sv ∧ s'.L = pc.mst.L) ∨ ∀ j, (Value.slice a2 n2 e2).ownBlock = some j → w.heap.size ≤ j) → Below W1.drew.heap.size W1.drew W2 →
      W4.drew.ownsRow 0 53 7 fv U (recCells pc.fresh) ∧ Bk 26 W4 w.heap.size #[.int .i64 co, .int .i64 oa, .int .i64 ob] ∧ W4.cell? ⟨q, 15, none⟩ = some fv ∧ q < W4.heap.size ∧
      ∀ v' w', w'.ownsRow 0 53 7 v' (U + 1) (recCells pc.fresh ++ (#[.int .i64 0, .int .i64 A, .int .i64 SQ, .int .i64 co, .int .i64 oa, .int .i64 ob, .int .i64 rs] : Array Value).toList) → (W4.drew.alloc (.cells #[.int .i64 0, .int .i64 A, .int .i64 SQ, .int .i64 co, .int .i64 oa, .int .i64 ob, .int .i64 rs] 53)).grownBy w' fv.ownBlock → (v'.ownBlock = fv.ownBlock ∨ v'.ownBlock = some (W4.drew.heap.size + 1)) →
        (w'.cell? ⟨q, 15, none⟩ = some fv ∧ w'.frozen? ⟨q, 15, none⟩ = false ∧ (w'.setCell ⟨q, 15, none⟩ v').cell? ⟨q, 15, none⟩ = some v') ∧
        ∃ sv' fv', Bk 71 (w'.setCell ⟨q, 15, none⟩ v') q (pcC lb p x sv' (.slice (some ⟨g, 0, none⟩) n c) fv' { pc with mst := s', mlast := putN pc.mlast pc.asked ⟨sq, rs⟩, fresh := pc.fresh ++ [⟨0, pc.asked, sq, ⟨co, oa, ob⟩, rs⟩] }) ∧ RdI (w'.setCell ⟨q, 15, none⟩ v') sv' s'.L ∧
          ((sv' = sv ∧ s'.L = pc.mst.L) ∨ ∀ j, sv'.ownBlock = some j → w.heap.size ≤ j) ∧ (w'.setCell ⟨q, 15, none⟩ v').ownsRow 0 91 2 (.slice (some ⟨g, 0, none⟩) n c) n (anC (putN pc.mlast pc.asked ⟨sq, rs⟩) n) ∧ OwnR (w'.setCell ⟨q, 15, none⟩ v') 0 fv' (pc.fresh ++ [⟨0, pc.asked, sq, ⟨co, oa, ob⟩, rs⟩]) ∧
          (fv'.ownBlock = fv.ownBlock ∨ ∃ j, fv'.ownBlock = some j ∧ w.heap.size ≤ j) ∧ (s'.L = [] ∨ ∀ j, sv'.ownBlock = some j → fv'.ownBlock ≠ some j) ∧ Only (fun k => k = q ∨ k = g ∨ fv.ownBlock = some k) w (w'.setCell ⟨q, 15, none⟩ v')) := hide fun W2 a2 n2 e2 W3 W4 hw3 hw4 hr2 hv2 hb2 => by
    have hb02 : Below w.heap.size w W2 := hbd.trans (hb2.mono hbd.size)
    have hs02 := hb02.size
    have o3 : Only (fun k => k = q) W2 W3 := by rw [hw3]; exact ((((Only.refl (fun k => k = q) W2).setCell 10 (fun _ => rfl) _).setCell 11 (fun _ => rfl) _).setCell 12 (fun _ => rfl) _).setCell 13 (fun _ => rfl) _
    have o4 : Only (fun k => k = g) W3 W4 := by rw [hw4]; exact ((Only.refl (fun k => k = g) W3).setCell _ (fun _ => rfl) _).setCell _ (fun _ => rfl) _
    have o24 : Only (fun k => k = q ∨ k = g) W2 W4 := (o3.mono fun _ a => .inl a).trans o4 fun _ _ a => .inr a
    have q2 : Bk 71 W2 q (pcC lb p x sv (.slice (some ⟨g, 0, none⟩) n c) fv pc) := hq.keep (hb02.block _ hql)
    have q3 : Bk 71 W3 q (pcC lb p x (.slice a2 n2 e2) (.slice (some ⟨g, 0, none⟩) n c) fv { pc with mst := s' }) := by
      rw [hw3]
      exact ((((q2.set 10 (.int .i64 s'.kind)).set 11 (.slice a2 n2 e2)).set 12 (.bool s'.shut)).set 13 (.int .i64 s'.eng))
    have q4 : Bk 71 W4 q (pcC lb p x (.slice a2 n2 e2) (.slice (some ⟨g, 0, none⟩) n c) fv { pc with mst := s' }) := q3.only o4 (Ne.symm hgq)
    have row2 := ownsRow_keep (w' := W2) hrow fun k hk => hb02.block k (row_bk hrow hk).choose_spec.lt
    have row3 := ownsRow_keep (w' := W3) row2 fun k hk => o3.block k (row_bk row2 hk).choose_spec.lt (by
      obtain rfl : g = k := Option.some.inj hk
      exact hgq)
    have row4 : W4.ownsRow 0 91 2 (.slice (some ⟨g, 0, none⟩) n c) n (anC (putN pc.mlast pc.asked ⟨sq, rs⟩) n) := by
      rw [hw4, hSQ, ← anC_set pc.mlast ha sq rs]
      exact ((World.ownsRow.stored row3 (pc.asked * 2 + 0) (.int .i64 (sq : Int))).1.stored (pc.asked * 2 + 1) (.int .i64 rs)).1
    have fr2 : OwnR W2 0 fv pc.fresh := ownsRow_keep hfr fun k hk => hb02.block k (hfl k hk).1
    have fr4 : OwnR W4 0 fv pc.fresh := ownsRow_keep fr2 fun k hk => o24.block k (row_bk fr2 hk).choose_spec.lt fun a => a.elim (hfl k hk).2.1 (hfl k hk).2.2
    have xb2 : Bk 26 W2 w.heap.size #[.int .i64 co, .int .i64 oa, .int .i64 ob] := Bk.keep (w := W1.drew) (hxb.keep rfl) (hb2.block _ hxb.lt)
    have xb4 : Bk 26 W4 w.heap.size #[.int .i64 co, .int .i64 oa, .int .i64 ob] := xb2.only o24 fun a => by rcases a with a | a <;> omega
    rw [hU]
    refine ⟨ownsRow_keep (w' := W4.drew) fr4 fun _ _ => rfl, xb4, (q4.cell 15 rfl).1, q4.lt, fun v' w' a1 a2' a3 => ?_⟩
    have o5 : Only (fun j => fv.ownBlock = some j) W4.drew w' := grown_only a2'
    have hs4 := o24.size
    have q5 : Bk 71 w' q (pcC lb p x (.slice a2 n2 e2) (.slice (some ⟨g, 0, none⟩) n c) fv { pc with mst := s' }) := Bk.only (w := W4.drew) (q4.keep rfl) o5 fun e1 => (hfl _ e1).2.1 rfl
    have hv'q : ∀ k, v'.ownBlock = some k → k ≠ q := fun k hk => by
      obtain ⟨cs, hb⟩ := row_bk a1 hk
      exact hb.ne q5 (by decide)
    have o6 : Only (fun k => k = q) w' (w'.setCell ⟨q, 15, none⟩ v') := (Only.refl (fun k => k = q) w').setCell 15 (fun _ => rfl) v'
    have oall : Only (fun k => k = q ∨ k = g ∨ fv.ownBlock = some k) W2 (w'.setCell ⟨q, 15, none⟩ v') :=
      (((o24.mono fun k a => a.imp id .inl).drewN 1).trans o5 fun _ _ a => .inr (.inr a)).trans o6 fun _ _ a => .inl a
    refine ⟨⟨(q5.cell 15 rfl).1, (q5.cell 15 rfl).2, ((q5.set 15 v').cell 15 rfl).1⟩, .slice a2 n2 e2, v', q5.set 15 v', ?_, hv2, ?_, ?_, ?_, ?_, (Only.ofBelow hb02).trans oall fun _ _ a => a⟩
    · refine hr2.onlyE oall ?_
      rcases hv2 with ⟨e1, e2'⟩ | e1
      · rw [e1, e2']
        exact hnum.imp id fun hn k hk a => by
          have := hn k hk
          rcases a with a | a | a
          · exact this.1 a
          · exact this.2.1 a
          · exact this.2.2 a
      · refine .inr fun k hk a => ?_
        have := e1 k hk
        rcases a with a | a | a
        · omega
        · omega
        · have := (hfl k a).1
          omega
    · refine ownsRow_keep (w := W4) row4 fun k hk => ?_
      obtain rfl : g = k := Option.some.inj hk
      have o7 : Only (fun k => fv.ownBlock = some k ∨ k = q) W4 (w'.setCell ⟨q, 15, none⟩ v') := (((only_drew (fun k => fv.ownBlock = some k ∨ k = q) W4).trans o5 fun _ _ a => .inl a).trans o6 fun _ _ a => .inr a)
      exact o7.block g (by omega) fun a => a.elim (fun a => (hfl _ a).2.2 rfl) hgq
    · refine ownsRow_keep (w := w') ?_ fun k hk => o6.block k (row_bk a1 hk).choose_spec.lt (hv'q k hk)
      rw [List.length_append, recCells_app]
      rw [hA, hSQ] at a1
      exact a1
    · exact a3.imp id fun e1 => ⟨_, e1, by show w.heap.size ≤ W4.heap.size + 1; omega⟩
    · by_cases hnil : s'.L = []
      · exact .inl hnil
      refine .inr fun j hj hk => ?_
      have hj2 := hr2.blk.resolve_left hnil j hj
      rcases a3 with a3 | a3
      · rw [a3] at hk
        rcases hv2 with ⟨e1, e2'⟩ | e1
        · rw [e1] at hj
          rcases hnum with hn | hn
          · have := (hfl j hk).1
            rw [hn] at e2'
            exact hnil e2'
          · exact (hn j hj).2.2 hk
        · have := e1 j hj
          have := (hfl j hk).1
          omega
      · rw [a3] at hk
        have := Option.some.inj hk
        have : W4.drew.heap.size = W4.heap.size := rfl
        omega
  have hqd : Bk 71 W1.drew q (pcC lb p x sv (.slice (some ⟨g, 0, none⟩) n c) fv pc) := hq.keep (hbd.block _ hql)
  have HQ2 : Hid (∀ W2, Below W1.drew.heap.size W1.drew W2 → ∀ j, j < 17 → W2.frozen? ⟨q, j, none⟩ = false ∧ ∃ z, W2.cell? ⟨q, j, none⟩ = some z) := hide fun W2 hb j hj => by
    have hb := hqd.keep (hb.block _ hqd.lt)
    obtain ⟨z, hz⟩ : ∃ z, (pcC lb p x sv (.slice (some ⟨g, 0, none⟩) n c) fv pc)[j]? = some z := ⟨_, Array.getElem?_eq_getElem (by show j < 17; omega)⟩
    exact ⟨(hb.cell j hz).2, z, (hb.cell j hz).1⟩
  have HG3 : Hid (∀ W2 W3, Below W1.drew.heap.size W1.drew W2 → Only (fun k => k = q) W2 W3 → (W3.frozen? ⟨g, pc.asked * 2, none⟩ = false ∧ ∃ z, W3.cell? ⟨g, pc.asked * 2, none⟩ = some z) ∧ (W3.frozen? ⟨g, pc.asked * 2 + 1, none⟩ = false ∧ ∃ z, W3.cell? ⟨g, pc.asked * 2 + 1, none⟩ = some z)) := hide fun W2 W3 hb o3 => by
    have hrd : W1.drew.ownsRow 0 91 2 (.slice (some ⟨g, 0, none⟩) n c) n (anC pc.mlast n) := ownsRow_keep hrow fun k hk => hbd.block k (row_bk hrow hk).choose_spec.lt
    have r2 := ownsRow_keep (w' := W2) hrd fun k hk => hb.block k (row_bk hrd hk).choose_spec.lt
    have r3 := ownsRow_keep (w' := W3) r2 fun k hk => o3.block k (row_bk r2 hk).choose_spec.lt (by
      obtain rfl : g = k := Option.some.inj hk
      exact hgq)
    obtain ⟨cs, hb3⟩ := row_bk r3 (g := g) rfl
    have cel := World.ownsRow.cells r3 (g := g) rfl
    obtain ⟨a0, a1⟩ := anC_get pc.mlast ha
    have c0 := cel _ _ a0
    have c1 := cel _ _ a1
    rw [Addr.add_lit, Nat.zero_add] at c0 c1
    exact ⟨⟨frozen_of_row W3 g _ _ _ hb3, _, c0⟩, frozen_of_row W3 g _ _ _ hb3, _, c1⟩
  have HQ14 : Hid (∀ W2 a2 n2 e2, Below W1.drew.heap.size W1.drew W2 → ((((W2.setCell ⟨q, 10, none⟩ (.int .i64 s'.kind)).setCell ⟨q, 11, none⟩ (.slice a2 n2 e2)).setCell ⟨q, 12, none⟩ (.bool s'.shut)).setCell ⟨q, 13, none⟩ (.int .i64 s'.eng)).cell? ⟨q, 14, none⟩ = some (.slice (some ⟨g, 0, none⟩) n c)) := hide fun W2 a2 n2 e2 hb => by
    have q2 := hqd.keep (hb.block _ hqd.lt)
    exact ((((q2.set 10 (.int .i64 s'.kind)).set 11 (.slice a2 n2 e2)).set 12 (.bool s'.shut)).set 13 (.int .i64 s'.eng)).cell 14 rfl |>.1
  have c10 : W1.drew.cell? ⟨q, 10, none⟩ = some (.int .i64 pc.mst.kind) := (hqd.cell 10 rfl).1
  have c11 : W1.drew.cell? ⟨q, 11, none⟩ = some sv := (hqd.cell 11 rfl).1
  have c12 : W1.drew.cell? ⟨q, 12, none⟩ = some (.bool pc.mst.shut) := (hqd.cell 12 rfl).1
  have c13 : W1.drew.cell? ⟨q, 13, none⟩ = some (.int .i64 pc.mst.eng) := (hqd.cell 13 rfl).1
  have b10 : W1.cell? ⟨q, 10, none⟩ = some (.int .i64 pc.mst.kind) := c10
  have b11 : W1.cell? ⟨q, 11, none⟩ = some sv := c11
  have b12 : W1.cell? ⟨q, 12, none⟩ = some (.bool pc.mst.shut) := c12
  have b13 : W1.cell? ⟨q, 13, none⟩ = some (.int .i64 pc.mst.eng) := c13
  obtain ⟨x0, -⟩ := hxb.cell 0 rfl
  obtain ⟨x1, -⟩ := hxb.cell 1 rfl
  obtain ⟨x2, -⟩ := hxb.cell 2 rfl
  have y0 : W1.drew.cell? ⟨w.heap.size, 0, none⟩ = some (.int .i64 co) := x0
  have y1 : W1.drew.cell? ⟨w.heap.size, 1, none⟩ = some (.int .i64 oa) := x1
  have y2 : W1.drew.cell? ⟨w.heap.size, 2, none⟩ = some (.int .i64 ob) := x2
  have HAK : Hid (A < (n : Int) ∧ 0 ≤ A) := hide (by omega)
  have hAk : (pc.asked : Int) < (n : Int) := by omega
  have HOC : Hid (∀ u ∈ (#[.int .i64 0, .int .i64 A, .int .i64 SQ, .int .i64 co, .int .i64 oa, .int .i64 ob, .int .i64 rs] : Array Value).toList, u.oneCell' = true) := hide (by
    intro u hu
    simp at hu
    rcases hu with rfl | rfl | rfl | rfl | rfl | rfl | rfl <;> rfl)
  have HUL : Hid (U ≤ 10000000) := hide (by omega)
  have HW1 := hide hW1
  rw [← hU] at hfv
  subst hfv
  subst hsv
  rw [hA, hSQ] at HFIN HOC
  clear hq hs hst hrow hfr hlen ha hnum hst' hdp hSQ hx hW1 hxb hbd hki hgl hql hgq hfl hU hqd hA
  generalize pc.asked = a at *
  go_enter Try.func53, Try.ntmps53
  go_upto_region 2 with fail
  rw [← HW1.out]
  go_region_with
    (first | (go_at_call 56; refine (HS.out).mono ?_; rintro r W2 ⟨a2, n2, e2, rfl, hr2, hv2, hb2⟩; have HR2 := hide hr2; have HV2 := hide hv2; have HB2 := hide hb2; obtain ⟨f10, z10, y10⟩ := HQ2.out _ hb2 10 (by omega); obtain ⟨f11, z11, y11⟩ := HQ2.out _ hb2 11 (by omega); obtain ⟨f12, z12, y12⟩ := HQ2.out _ hb2 12 (by omega); obtain ⟨f13, z13, y13⟩ := HQ2.out _ hb2 13 (by omega); clear hr2 hv2 hb2))
  all_goals
    go_upto_region 3 with fail
    obtain ⟨W3, hW3⟩ : ∃ W3, W3 = (((W2.setCell ⟨q, 10, none⟩ (.int .i64 s'.kind)).setCell ⟨q, 11, none⟩ (.slice a2 n2 e2)).setCell ⟨q, 12, none⟩ (.bool s'.shut)).setCell ⟨q, 13, none⟩ (.int .i64 s'.eng) := ⟨_, rfl⟩
    rw [← hW3]
    have k14 : W3.cell? ⟨q, 14, none⟩ = some (.slice (some ⟨g, 0, none⟩) n c) := by rw [hW3]; exact HQ14.out _ _ _ _ HB2.out
    have HO3 : Hid (Only (fun k => k = q) W2 W3) := hide (by rw [hW3]; exact ((((Only.refl (fun k => k = q) W2).setCell 10 (fun _ => rfl) _).setCell 11 (fun _ => rfl) _).setCell 12 (fun _ => rfl) _).setCell 13 (fun _ => rfl) _)
    obtain ⟨⟨fg0, zg0, yg0⟩, fg1, zg1, yg1⟩ := HG3.out W2 W3 HB2.out HO3.out
    have HW3 := hide hW3
    clear f10 f11 f12 f13 y10 y11 y12 y13 hW3 c10 c11 c12 c13 b10 b11 b12 b13 x0 x1 x2 y0 y1 y2
    go_upto_region 4 with fail
    obtain ⟨W4, hW4⟩ : ∃ W4, W4 = (W3.setCell ⟨g, a * 2, none⟩ (.int .i64 (sq : Int))).setCell ⟨g, a * 2 + 1, none⟩ (.int .i64 rs) := ⟨_, rfl⟩
    rw [← hW4]
    have HF := hide (HFIN.out W2 a2 n2 e2 W3 W4 HW3.out hW4 HR2.out HV2.out HB2.out)
    clear k14 fg0 fg1 yg0 yg1 hW4
    have q15 : W4.cell? ⟨q, 15, none⟩ = some (.slice fa U fc) := HF.out.2.2.1
    have q15' : W4.drew.cell? ⟨q, 15, none⟩ = some (.slice fa U fc) := q15
    have q15a : (W4.alloc (.cells #[.int .i64 0, .int .i64 (a : Int), .int .i64 (sq : Int), .int .i64 co, .int .i64 oa, .int .i64 ob, .int .i64 rs] 53)).cell? ⟨q, 15, none⟩ = some (.slice fa U fc) := (World.cell?_of_block (a := ⟨q, 15, none⟩) (Below.heap_alloc W4 _ q HF.out.2.2.2.1)).trans q15
    have q15b : (W4.drew.alloc (.cells #[.int .i64 0, .int .i64 (a : Int), .int .i64 (sq : Int), .int .i64 co, .int .i64 oa, .int .i64 ob, .int .i64 rs] 53)).cell? ⟨q, 15, none⟩ = some (.slice fa U fc) := q15a
    obtain ⟨x0, -⟩ := HF.out.2.1.cell 0 rfl
    obtain ⟨x1, -⟩ := HF.out.2.1.cell 1 rfl
    obtain ⟨x2, -⟩ := HF.out.2.1.cell 2 rfl
    go_region_law (refine step_append_one 37 53 7 56 _ Try.underlying37 info_rec7 rfl (by decide) (by decide) (by rfl) _ _ (by rfl) (.slice fa U fc) U (recCells pc.fresh) (by rfl) #[.int .i64 0, .int .i64 (a : Int), .int .i64 (sq : Int), .int .i64 co, .int .i64 oa, .int .i64 ob, .int .i64 rs] W4.drew (by rfl) HF.out.1 (by rfl) HOC.out (by rfl) HUL.out ?_; intro v9 W9 ho9 hg9 hv9; obtain ⟨⟨t1, t2, t3⟩, hA⟩ := HF.out.2.2.2.2 v9 W9 ho9 hg9 hv9; have HA9 := hide hA; obtain ⟨z1, z2, hz⟩ : ∃ a c, v9 = Value.slice a (U + 1) c := (by obtain ⟨a, c, h⟩ := row_form ho9; exact ⟨_, _, h⟩); subst hz; clear hA ho9 hg9 hv9)
    all_goals
      go_wp2
      go_end0
      exact ⟨rfl, HA9.out⟩

end Go.Proofs.Ytedfacbngefhnaa
