/- Herlihy's engine: a node takes effect. -/
import Derived.Test.YtiofhmlkgieclaaHerlF
import Derived.Test.YtiofhmlkgieclaaObjsOwn
import Derived.Maps.AppendAt
import Derived.BigRegion
namespace Go.Proofs.Ytiofhmlkgieclaa
open Go.RowKit Go.Maps Go.ChangeShapes

/-- One element more behind a row of one's own, whatever its elements are. -/
theorem step_append_one (RT T : TypeId) (sz bytes : Nat) (z : Value) (hu : Try.prog.underlying RT = some (.slice T)) (hinfo : (Try.prog.info? T).map (fun i => (i.zero, i.size, i.bytes)) = some (some z, sz, bytes)) (hz : z.cells.size = sz) (hsz : 0 < sz) (hby : bytes ≤ 1000)
    {ops : Array Oper} {o : Oper} {a : Act} {w : World} {K : Act → World → Prop} {Q : Exit → Act → World → Prop} {E : Prop}
    (hg : o.guard = none) (s x : Operand) (hop : o.op = Op.call { callee := Callee.builtin Builtin.append, args := #[s, x], argTypes := #[RT, RT] })
    (v : Value) (n : Nat) (xs : List Value) (hs : a.eval s = v) (cs : Array Value) (W0 : World) (hw0 : w = W0.alloc (.cells cs T)) (h : W0.ownsRow 0 T sz v n xs) (hlen : cs.size = sz) (h1 : ∀ u ∈ cs.toList, u.oneCell' = true) (hx : a.eval x = .slice (some ⟨W0.heap.size, 0, none⟩) 1 1) (hlim : n ≤ 10000000)
    (hK : ∀ v' w', w'.ownsRow 0 T sz v' (n + 1) (xs ++ cs.toList) → (W0.alloc (.cells cs T)).grownBy w' v.ownBlock → (v'.ownBlock = v.ownBlock ∨ v'.ownBlock = some (W0.heap.size + 1)) → K (a.put o.dst v') w') :
    if Region.wanted o (yielded ops a.tmps) = true then Oper.wp Try.prog o a w K Q else E := by
  have hw : Region.wanted o (yielded ops a.tmps) = true := by simp [Region.wanted, hg]
  rw [if_pos hw]
  subst hw0
  obtain ⟨i0, hi, hz0, hz1, hz2⟩ := info_parts hinfo
  obtain ⟨v', w', hrun, ho, hgr, _, hl⟩ := run_append_own_at (P := Try.prog) (W0.alloc (.cells cs T)) 0 RT o.type T i0 z sz bytes hu hi hz0 hz1 hz2 hz hsz v n xs (World.ownsRow.alloc h _)
    ⟨W0.heap.size, 0, none⟩ 1 1 cs.toList (by simpa using hlen) (fun j u hj => by
      rw [Addr.add_lit, Nat.zero_add, cell_of_row _ W0.heap.size j _ T (0, 0) (heap_alloc_new W0 _)]
      simpa using hj) h1 (by unfold maxLen; omega) (Nat.le_trans (Nat.mul_le_mul_left _ hby) (by omega)) (Nat.zero_le _)
  have hl' : v'.ownBlock = v.ownBlock ∨ v'.ownBlock = some (W0.heap.size + 1) := by
    rcases hl with hl | hl
    · exact .inl hl
    · exact .inr (by rw [hl]; simp)
  unfold Oper.wp execOp
  simp only [hop, resolve, invoke, builtin, Sem.run_bind, Sem.run_pure, Result.andThen_ok, List.map_toArray, List.map_cons, List.map_nil, hs, hx, hrun]
  exact hK v' w' ho hgr hl'

theorem grown_only {W0 w' : World} {o : Obj} {r : Option Nat} (hg : (W0.alloc o).grownBy w' r) : Only (fun k => r = some k) W0 w' := by
  have hsz : (W0.alloc o).heap.size = W0.heap.size + 1 := by simp
  have h1 : Only (fun k => r = some k) (W0.alloc o) w' := Only.ofGrown hg fun k hk _ => hk
  exact ((Only.refl (fun k => r = some k) W0).alloc o).trans h1 fun _ _ h => h

theorem info_rec7 : (Try.prog.info? 53).map (fun i => (i.zero, i.size, i.bytes)) = some (some (.agg #[.int .i64 0, .int .i64 0, .int .i64 0, .int .i64 0, .int .i64 0, .int .i64 0, .int .i64 0]), 7, 56) := by kernel_rfl

theorem EgL.nodeAll {w : World} {eb : Nat} {L : HL} {x : Nat → Value} {e : Eg} {M : Mc} {N k : Nat} (h : EgL w eb L x e M N) (hk : k < e.nodes.length) :
    ∃ g c, L.nv = .slice (some ⟨g, 0, none⟩) e.nodes.length c ∧ ∀ j, j < 7 → w.cell? ⟨g, k * 7 + j, none⟩ = (ndC e.n k (e.nd k))[j]? := by
  obtain ⟨g, c, hv, hc⟩ := row_at h.nodes (by omega)
  refine ⟨g, c, hv, fun j hj => ?_⟩
  have e1 := ndCells_get e.n 0 e.nodes k j hk hj
  rw [Nat.zero_add] at e1
  have e2 : ∃ u, (ndC e.n k (e.nd k))[j]? = some u := ⟨_, Array.getElem?_eq_getElem (by show j < 7; exact hj)⟩
  obtain ⟨u, hu⟩ := e2
  rw [hu]
  exact hc _ _ (e1.trans hu)

/-- What a node's effect leaves. -/
def EffDid (w : World) (eb : Nat) (L : HL) (x : Nat → Value) (e : Eg) (M : Mc) (N k : Nat) (w' : World) : Prop :=
  ∃ lv' sv', EgL w' eb { L with lv := lv', sv := sv' } x (effectE e k) M N ∧ Only (fun j => j = L.l ∨ L.lv.ownBlock = some j) w w' ∧
    (∀ j, lv'.ownBlock = some j → L.lv.ownBlock = some j ∨ w.heap.size ≤ j) ∧ ((sv' = L.sv ∧ (effectE e k).st.L = e.st.L) ∨ ∀ j, sv'.ownBlock = some j → w.heap.size ≤ j)

theorem EffDid.of {w w1 W0 w' : World} {eb : Nat} {L : HL} {x : Nat → Value} {e : Eg} {M : Mc} {N k : Nat} {lv' sv' : Value} (h : EgL w eb L x e M N) (hb : Below w.heap.size w w1) (hst : RdI w1 sv' (effectE e k).st.L)
    (hsv : (sv' = L.sv ∧ (effectE e k).st.L = e.st.L) ∨ ∀ j, sv'.ownBlock = some j → w.heap.size ≤ j) (h0 : Only (fun j => j = L.l) w1 W0) (ho : Only (fun j => L.lv.ownBlock = some j) W0 w')
    (hlv : OwnR w' 0 lv' (effectE e k).log) (hv : lv'.ownBlock = L.lv.ownBlock ∨ ∃ j, lv'.ownBlock = some j ∧ W0.heap.size ≤ j) (hl : Bk 73 W0 L.l (lsC e.n L.m L.nv L.lv sv' (effectE e k).st)) : EffDid w eb L x e M N k (w'.setCell ⟨L.l, 5, none⟩ lv') := by
  have A := h.apt
  have hsz1 := hb.size
  have hsz2 := h0.size
  have o1 : Only (fun j => j = L.l ∨ L.lv.ownBlock = some j) w w' := ((Only.ofBelow hb).trans (h0.mono fun _ k => .inl k) fun _ _ k => k).trans (ho.mono fun _ k => .inr k) fun _ _ k => k
  have o2 : Only (fun j => j = L.l ∨ L.lv.ownBlock = some j) w (w'.setCell ⟨L.l, 5, none⟩ lv') := o1.setCell 5 (fun _ => .inl rfl) lv'
  have kb : ∀ {t : TypeId} {b : Nat} {cs : Array Value}, Bk t w b cs → b ≠ L.l → L.lv.ownBlock ≠ some b → Bk t (w'.setCell ⟨L.l, 5, none⟩ lv') b cs := fun hb h1 h2 => hb.only o2 fun g => g.elim h1 h2
  have hl2 : Bk 73 w' L.l (lsC e.n L.m L.nv L.lv sv' (effectE e k).st) := hl.only ho A.l_.2.2.2.1
  have hlvne : ∀ g, lv'.ownBlock = some g → g ≠ L.l := fun g hg e1 => by
    obtain ⟨cs, hb'⟩ := row_bk hlv hg
    rw [e1] at hb'
    exact (hb'.ne hl2 (by decide)) rfl
  have lv2 : ∀ j, lv'.ownBlock = some j → L.lv.ownBlock = some j ∨ w.heap.size ≤ j := fun j hj => by
    rcases hv with hv | ⟨i, hi, hi2⟩
    · exact .inl (by rw [← hv]; exact hj)
    · rw [hi] at hj
      obtain rfl := Option.some.inj hj
      exact .inr (by omega)
  have hst1 : ∀ g, sv'.ownBlock = some g → (effectE e k).st.L = [] ∨ g < w1.heap.size := fun g hg => by
    obtain ⟨ao, cap, hv', _, _, _, _, h4⟩ := hst
    rcases h4 with h4 | ⟨b, off, h5, h6⟩
    · exact .inl h4
    · by_cases hn : (effectE e k).st.L = []
      · exact .inl hn
      · right
        rw [hv', h5] at hg
        have : g = b := by
          have := Option.some.inj hg
          exact this.symm
        rw [this]
        exact World.block_lt_of_cell? w1 _ (h6 0 (List.length_pos_iff.2 hn))
  have svold : (effectE e k).st.L = [] ∨ ∀ g, sv'.ownBlock = some g → ¬ HasE eb L e.n g := by
    rcases hsv with ⟨a1, a2⟩ | a
    · rw [a1, a2]; exact h.stn
    · exact .inr fun g hg hh => by have := A.lt g hh; have := a g hg; omega
  refine ⟨lv', sv', ⟨kb h.head A.l_.1.symm (fun e1 => (A.lv_ _ e1).1 rfl), ?_, ?_, ?_, ?_, ?_, ?_, fun p hp => ?_, h.inj, ?_, ⟨h.rel.procs, h.rel.len, h.rel.ann, h.rel.head, h.rel.nxt, h.rel.plc, h.rel.s⟩⟩, o2, lv2, hsv⟩
  · exact ownsRow_keep h.procs fun g hg => o2.block _ (row_bk h.procs hg).choose_spec.lt fun e1 => e1.elim (fun e1 => A.l_.2.1 (by rw [← e1]; exact hg)) (fun e1 => (A.lv_ _ e1).2.1 hg)
  · exact hl2.set 5 lv'
  · exact ownsRow_keep h.nodes fun g hg => o2.block _ (row_bk h.nodes hg).choose_spec.lt fun e1 => e1.elim (fun e1 => A.l_.2.2.1 (by rw [← e1]; exact hg)) (fun e1 => (A.lv_ _ e1).2.2.1 hg)
  · exact ownsRow_keep hlv fun g hg => Below.heap_setCell _ _ _ _ (hlvne g hg)
  · rcases svold with a | a
    · rw [a] at hst ⊢
      obtain ⟨ao, cap, hv', h2, h3, h4, h5, _⟩ := hst
      exact ⟨ao, cap, hv', h2, h3, h4, h5, .inl rfl⟩
    · refine ((hst.only h0 fun g hg e1 => a g hg (.inr (.inl e1))).only ho fun g hg e1 => a g hg ?_).only ((Only.refl (fun j => j = L.l) w').setCell 5 (fun _ => rfl) lv') fun g hg e1 => a g hg (.inr (.inl e1))
      unfold HasE
      simp [e1]
  · exact h.mac.keep (o2.block _ h.mac.head.lt fun e1 => e1.elim (fun e1 => A.l_.2.2.2.2.1 e1.symm) (fun e1 => (A.lv_ _ e1).2.2.2.2.1 rfl)) (o2.block _ h.mac.cells.lt fun e1 => e1.elim (fun e1 => A.l_.2.2.2.2.2.1 e1.symm) (fun e1 => (A.lv_ _ e1).2.2.2.2.2.1 rfl))
      (o2.block _ h.mac.steps.lt fun e1 => e1.elim (fun e1 => A.l_.2.2.2.2.2.2 e1.symm) (fun e1 => (A.lv_ _ e1).2.2.2.2.2.2.1 rfl))
  · exact kb (h.pr p hp) ((A.eb_ _ (.inr (.inr ⟨p, hp, rfl⟩))).2.2.1) (fun e1 => (A.lv_ _ e1).2.2.2.2.2.2.2 p hp rfl)
  · rcases svold with a | a
    · exact .inl a
    · by_cases hn : (effectE e k).st.L = []
      · exact .inl hn
      refine .inr fun g hg hh => ?_
      have hg1 := (hst1 g hg).resolve_left hn
      have hold := a g hg
      unfold HasE at hh hold
      rcases hh with hh | hh | hh | hh | hh | hh | hh | hh | hh
      · exact hold (.inl hh)
      · exact hold (.inr (.inl hh))
      · exact hold (.inr (.inr (.inl hh)))
      · exact hold (.inr (.inr (.inr (.inl hh))))
      · exact hold (.inr (.inr (.inr (.inr (.inl hh)))))
      · exact hold (.inr (.inr (.inr (.inr (.inr (.inl hh))))))
      · exact hold (.inr (.inr (.inr (.inr (.inr (.inr (.inl hh)))))))
      · have hh' : lv'.ownBlock = some g := hh
        rcases hv with hv | ⟨i, hi, hi2⟩
        · rw [hv] at hh'
          exact hold (.inr (.inr (.inr (.inr (.inr (.inr (.inr (.inl hh'))))))))
        · rw [hi] at hh'
          have := Option.some.inj hh'
          omega
      · exact hold (.inr (.inr (.inr (.inr (.inr (.inr (.inr (.inr hh))))))))

set_option maxRecDepth 100000 in
set_option maxHeartbeats 4000000 in
theorem effect_any {w : World} {eb : Nat} {L : HL} {x : Nat → Value} {e : Eg} {M : Mc} {N k : Nat} (h : EgL w eb L x e M N) (hk : k < e.nodes.length) (hs : MayS e.st) (hlim : e.log.length ≤ 1000000) :
    Calls Try.prog 59 #[ptr L.l, .int .i64 (k : Int)] w fun r w' => r = .returned (.tuple #[]) ∧ EffDid w eb L x e M N k w' := by
  obtain ⟨nb, nc, hnv, hnc⟩ := h.nodeAll hk
  obtain ⟨PR, hPR⟩ : ∃ PR : Int, PR = ((e.nd k).proc : Int) := ⟨_, rfl⟩
  obtain ⟨SQ, hSQ⟩ : ∃ SQ : Int, SQ = ((e.nd k).seq : Int) := ⟨_, rfl⟩
  obtain ⟨co, oa, ob, hop⟩ : ∃ co oa ob, (e.nd k).op = ⟨co, oa, ob⟩ := ⟨_, _, _, rfl⟩
  have n0 : w.cell? ⟨nb, k * 7, none⟩ = some (.int .i64 PR) := by rw [hPR]; exact hnc 0 (by omega)
  have n1 : w.cell? ⟨nb, k * 7 + 1, none⟩ = some (.int .i64 SQ) := by rw [hSQ]; exact hnc 1 (by omega)
  have n2 : w.cell? ⟨nb, k * 7 + 2, none⟩ = some (.int .i64 co) := (hnc 2 (by omega)).trans (by show some (Value.int .i64 (e.nd k).op.code) = _; rw [hop])
  have n3 : w.cell? ⟨nb, k * 7 + 3, none⟩ = some (.int .i64 oa) := (hnc 3 (by omega)).trans (by show some (Value.int .i64 (e.nd k).op.a) = _; rw [hop])
  have n4 : w.cell? ⟨nb, k * 7 + 4, none⟩ = some (.int .i64 ob) := (hnc 4 (by omega)).trans (by show some (Value.int .i64 (e.nd k).op.b) = _; rw [hop])
  have n5 : w.cell? ⟨nb, k * 7 + 5, none⟩ = some (.int .i64 (2 * (e.n : Int) + 2 * (k : Int))) := hnc 5 (by omega)
  have n6 : w.cell? ⟨nb, k * 7 + 6, none⟩ = some (.int .i64 (2 * (e.n : Int) + 2 * (k : Int) + 1)) := hnc 6 (by omega)
  generalize 2 * (e.n : Int) + 2 * (k : Int) = Z5 at n5 n6
  generalize Z5 + 1 = Z6 at n6
  have HPS := hide (And.intro hPR (And.intro hSQ hop))
  clear hnc hPR hSQ hop
  have hki : (k : Int) < (e.nodes.length : Int) := by omega
  have c4 : w.cell? ⟨L.l, 4, none⟩ = some (.slice (some ⟨nb, 0, none⟩) e.nodes.length nc) := by rw [← hnv]; exact (h.list.cell 4 rfl).1
  obtain ⟨s', rs, hst⟩ : ∃ s' rs, stepO e.st ⟨co, oa, ob⟩ = (s', rs) := ⟨_, _, rfl⟩
  have hS : Hid (∀ W, Below w.heap.size w W → Calls Try.prog 62 #[.agg #[.int .i64 e.st.kind, L.sv, .bool e.st.shut, .int .i64 e.st.eng], .agg #[.int .i64 co, .int .i64 oa, .int .i64 ob]] W fun r w' => ∃ a n c, r = .returned (.tuple #[.agg #[.int .i64 s'.kind, .slice a n c, .bool s'.shut, .int .i64 s'.eng], .int .i64 rs]) ∧ RdI w' (.slice a n c) s'.L ∧ ((Value.slice a n c = L.sv ∧ s'.L = e.st.L) ∨ ∀ j, (Value.slice a n c).ownBlock = some j → w.heap.size ≤ j) ∧ Below w.heap.size w w' ∧ Below W.heap.size W w') := hide fun W hb => by
    have hki : I64 e.st.kind := ⟨by have := hs.2.2.2.1; omega, by have := hs.2.2.2.2.1; omega⟩
    have hei : I64 e.st.eng := ⟨by have := hs.1; omega, by have := hs.2.1; omega⟩
    have hl := may_len hs
    refine (step_any (.agg #[.int .i64 e.st.kind, L.sv, .bool e.st.shut, .int .i64 e.st.eng]) e.st ⟨co, oa, ob⟩ W ⟨L.sv, rfl, (h.below hb).st, hki, hei⟩ (by omega)).mono fun r w' hd => ?_
    rw [hst] at hd
    obtain ⟨vl', h1, h2, _, _, h5, h6⟩ := hd
    obtain ⟨a, c, hv, _⟩ := id h2
    subst hv
    refine ⟨a, _, c, h1, h2, ?_, hb.trans (h6.mono hb.size), h6⟩
    rw [lval_agg] at h5
    exact h5.imp id fun h5 j hj => Nat.le_trans hb.size (h5 j hj)
  have HKL : Hid (∀ W, Below w.heap.size w W → Bk 73 W L.l (lsC e.n L.m L.nv L.lv L.sv e.st)) := hide fun W hb => (h.below hb).list
  obtain ⟨sa, sn, sc, hsv⟩ : ∃ a n c, L.sv = .slice a n c := by
    obtain ⟨a, c, hv, _⟩ := h.st
    exact ⟨a, _, c, hv⟩
  obtain ⟨ga, gc, hlv⟩ := row_form h.log
  have HE : Hid (∀ W1 W0 w' sv' lv', Below w.heap.size w W1 → RdI W1 sv' s'.L → ((sv' = L.sv ∧ s'.L = e.st.L) ∨ ∀ j, sv'.ownBlock = some j → w.heap.size ≤ j) → Only (fun j => j = L.l) W1 W0 → Only (fun j => L.lv.ownBlock = some j) W0 w' →
      OwnR w' 0 lv' (e.log ++ [⟨(e.log.length : Int), PR, SQ, ⟨co, oa, ob⟩, rs⟩]) → (lv'.ownBlock = L.lv.ownBlock ∨ ∃ j, lv'.ownBlock = some j ∧ W0.heap.size ≤ j) → Bk 73 W0 L.l (lsC e.n L.m L.nv L.lv sv' s') → EffDid w eb L x e M N k (w'.setCell ⟨L.l, 5, none⟩ lv')) := hide fun W1 W0 w' sv' lv' a1 a2 a3 a4 a5 a6 a7 a8 => by
    have e1 : (effectE e k).st = s' := by unfold effectE; dsimp only; rw [HPS.out.2.2, hst]
    have e2 : (effectE e k).log = e.log ++ [⟨(e.log.length : Int), PR, SQ, ⟨co, oa, ob⟩, rs⟩] := by unfold effectE; dsimp only; rw [HPS.out.2.2, hst, ← HPS.out.1, ← HPS.out.2.1]
    exact EffDid.of h a1 (by rw [e1]; exact a2) (by rw [e1]; exact a3) a4 a5 (by rw [e2]; exact a6) a7 (by rw [e1]; exact a8)
  have HLG : Hid (w.ownsRow 0 53 7 L.lv e.log.length (recCells e.log)) := hide h.log
  have HCV : Hid (∀ W v, W.ownsRow 0 53 7 v (e.log.length + 1) (recCells e.log ++ (#[.int .i64 (e.log.length : Int), .int .i64 PR, .int .i64 SQ, .int .i64 co, .int .i64 oa, .int .i64 ob, .int .i64 rs] : Array Value).toList) → OwnR W 0 v (e.log ++ [⟨(e.log.length : Int), PR, SQ, ⟨co, oa, ob⟩, rs⟩])) := hide fun W v hr => by
    unfold OwnR
    rw [List.length_append, recCells_app]
    exact hr
  have HLL : Hid (e.log.length ≤ 10000000) := hide (by omega)
  have HLB : Hid (∀ g, L.lv.ownBlock = some g → g < w.heap.size ∧ g ≠ L.l) := hide fun g hg => ⟨(row_bk h.log hg).choose_spec.lt, (h.apt.lv_ g hg).2.2.2.1⟩
  have HLS : Hid (L.l < w.heap.size) := hide h.list.lt
  rw [hsv] at hS HKL HE
  rw [hlv] at HE HKL HLG HLB
  have hbx : Below w.heap.size w (w.alloc (.cells #[.int .i64 PR, .int .i64 SQ, .int .i64 co, .int .i64 oa, .int .i64 ob, .int .i64 Z5, .int .i64 Z6] 86)) := (Below.refl _ _).alloc (Nat.le_refl _) _
  obtain ⟨W1, hW1⟩ : ∃ W1, W1 = w.alloc (.cells #[.int .i64 PR, .int .i64 SQ, .int .i64 co, .int .i64 oa, .int .i64 ob, .int .i64 Z5, .int .i64 Z6] 86) := ⟨_, rfl⟩
  have hxb : Bk 86 W1 w.heap.size #[.int .i64 PR, .int .i64 SQ, .int .i64 co, .int .i64 oa, .int .i64 ob, .int .i64 Z5, .int .i64 Z6] := by rw [hW1]; exact heap_alloc_new _ _
  rw [← hW1] at hbx
  have HBX := hide hbx
  have HW1 := hide hW1
  have HXB := hide hxb
  have HBD := hide (hbx.trans ((Below.refl w.heap.size W1).drew))
  clear hW1 hsv hlv hst hnv hs hbx hxb h hlim hk
  generalize e.log.length = U at *
  generalize e.nodes.length = T at *
  generalize L.l = l at *
  go_enter Try.func59, Try.ntmps59
  go_upto_region 2 with fail
  rw [← HW1.out]
  have HLD := hide (HKL.out _ HBD.out)
  have c6 : W1.drew.cell? ⟨l, 6, none⟩ = some (.int .i64 e.st.kind) := (HLD.out.cell 6 rfl).1
  have c7 : W1.drew.cell? ⟨l, 7, none⟩ = some (.slice sa sn sc) := (HLD.out.cell 7 rfl).1
  have c8 : W1.drew.cell? ⟨l, 8, none⟩ = some (.bool e.st.shut) := (HLD.out.cell 8 rfl).1
  have c9 : W1.drew.cell? ⟨l, 9, none⟩ = some (.int .i64 e.st.eng) := (HLD.out.cell 9 rfl).1
  have HLW := hide (HKL.out _ HBX.out)
  have b6 : W1.cell? ⟨l, 6, none⟩ = some (.int .i64 e.st.kind) := (HLW.out.cell 6 rfl).1
  have b7 : W1.cell? ⟨l, 7, none⟩ = some (.slice sa sn sc) := (HLW.out.cell 7 rfl).1
  have b8 : W1.cell? ⟨l, 8, none⟩ = some (.bool e.st.shut) := (HLW.out.cell 8 rfl).1
  have b9 : W1.cell? ⟨l, 9, none⟩ = some (.int .i64 e.st.eng) := (HLW.out.cell 9 rfl).1
  obtain ⟨v2, -⟩ := HXB.out.cell 2 rfl
  obtain ⟨v3, -⟩ := HXB.out.cell 3 rfl
  obtain ⟨v4, -⟩ := HXB.out.cell 4 rfl
  have HXD : Hid (Bk 86 W1.drew w.heap.size #[.int .i64 PR, .int .i64 SQ, .int .i64 co, .int .i64 oa, .int .i64 ob, .int .i64 Z5, .int .i64 Z6]) := hide (HXB.out.keep rfl)
  obtain ⟨x2, -⟩ := HXD.out.cell 2 rfl
  obtain ⟨x3, -⟩ := HXD.out.cell 3 rfl
  obtain ⟨x4, -⟩ := HXD.out.cell 4 rfl
  go_region_with
    (first | (go_at_call 62; refine (hS.out _ HBD.out).mono ?_; rintro r W2 ⟨a2, n2, e2, rfl, hr2, hv2, hb2, hbb2⟩; have HX2 := hide (HXD.out.keep (hbb2.block _ HXD.out.lt)); have HR2 := hide hr2; have HV2 := hide hv2; have HB2 := hide hb2; have HL2 := hide (HKL.out _ hb2); obtain ⟨z6, y6⟩ := HL2.out.cell 6 rfl; obtain ⟨z7, y7⟩ := HL2.out.cell 7 rfl; obtain ⟨z8, y8⟩ := HL2.out.cell 8 rfl; obtain ⟨z9, y9⟩ := HL2.out.cell 9 rfl; clear hr2 hv2 hb2 hbb2))
  all_goals
    go_upto_region 3 with fail
    obtain ⟨W3, hW3⟩ : ∃ W3, W3 = (((W2.setCell ⟨l, 6, none⟩ (.int .i64 s'.kind)).setCell ⟨l, 7, none⟩ (.slice a2 n2 e2)).setCell ⟨l, 8, none⟩ (.bool s'.shut)).setCell ⟨l, 9, none⟩ (.int .i64 s'.eng) := ⟨_, rfl⟩
    rw [← hW3]
    have HO3 : Hid (Only (fun j => j = l) W2 W3) := hide (by rw [hW3]; exact (((((Only.refl (fun j => j = l) W2).setCell 6 (fun _ => rfl) _).setCell 7 (fun _ => rfl) _).setCell 8 (fun _ => rfl) _).setCell 9 (fun _ => rfl) _))
    have HL3 : Hid (Bk 73 W3 l (lsC e.n L.m L.nv (.slice ga U gc) (.slice a2 n2 e2) s')) := hide (by rw [hW3]; exact (((HL2.out.set 6 _).set 7 _).set 8 _).set 9 _)
    have HX3 : Hid (Bk 86 W3 w.heap.size #[.int .i64 PR, .int .i64 SQ, .int .i64 co, .int .i64 oa, .int .i64 ob, .int .i64 Z5, .int .i64 Z6]) := hide (by
      have hne : w.heap.size ≠ l := fun e1 => by have := HLS.out; omega
      exact HX2.out.only HO3.out hne)
    have HLG3 : Hid (W3.drew.ownsRow 0 53 7 (.slice ga U gc) U (recCells e.log)) := hide (ownsRow_keep HLG.out fun g hg => by
      obtain ⟨g1, g2⟩ := HLB.out g hg
      rw [← HB2.out.block g g1]
      exact HO3.out.block g (by have := HB2.out.size; omega) g2)
    have HF3 : Hid (∀ v' w', w'.ownsRow 0 53 7 v' (U + 1) (recCells e.log ++ (#[.int .i64 (U : Int), .int .i64 PR, .int .i64 SQ, .int .i64 co, .int .i64 oa, .int .i64 ob, .int .i64 rs] : Array Value).toList) → (W3.drew.alloc (.cells #[.int .i64 (U : Int), .int .i64 PR, .int .i64 SQ, .int .i64 co, .int .i64 oa, .int .i64 ob, .int .i64 rs] 53)).grownBy w' (Value.slice ga U gc).ownBlock → (v'.ownBlock = (Value.slice ga U gc).ownBlock ∨ v'.ownBlock = some (W3.drew.heap.size + 1)) →
        EffDid w eb L x e M N k (w'.setCell ⟨l, 5, none⟩ v') ∧ w'.cell? ⟨l, 5, none⟩ = some (.slice ga U gc) ∧ w'.frozen? ⟨l, 5, none⟩ = false ∧ Bk 86 w' w.heap.size #[.int .i64 PR, .int .i64 SQ, .int .i64 co, .int .i64 oa, .int .i64 ob, .int .i64 Z5, .int .i64 Z6] ∧ Bk 86 (w'.setCell ⟨l, 5, none⟩ v') w.heap.size #[.int .i64 PR, .int .i64 SQ, .int .i64 co, .int .i64 oa, .int .i64 ob, .int .i64 Z5, .int .i64 Z6]) := hide fun v' w' ho hg hv => by
      have h4 : Only (fun j => (Value.slice ga U gc).ownBlock = some j) W3.drew w' := grown_only hg
      have h5 : Only (fun j => j = l) W2 W3.drew := HO3.out.drewN 1
      have hl3 : Bk 73 W3.drew l (lsC e.n L.m L.nv (.slice ga U gc) (.slice a2 n2 e2) s') := HL3.out.keep rfl
      refine ⟨HE.out W2 W3.drew w' _ v' HB2.out HR2.out HV2.out h5 h4 (HCV.out _ _ ho) (hv.imp id fun hv => ⟨_, hv, Nat.le_succ _⟩) hl3, ?_⟩
      have hx3 : Bk 86 w' w.heap.size #[.int .i64 PR, .int .i64 SQ, .int .i64 co, .int .i64 oa, .int .i64 ob, .int .i64 Z5, .int .i64 Z6] := (Bk.keep (w' := W3.drew) HX3.out rfl).only h4 fun e1 => by have := (HLB.out _ e1).1; omega
      have hc5 := (hl3.only h4 fun e1 => (HLB.out _ e1).2 rfl).cell 5 rfl
      exact ⟨hc5.1, hc5.2, hx3, hx3.other l 5 _ (by have := HLS.out; omega)⟩
    have HOC : Hid (∀ u ∈ (#[.int .i64 (U : Int), .int .i64 PR, .int .i64 SQ, .int .i64 co, .int .i64 oa, .int .i64 ob, .int .i64 rs] : Array Value).toList, u.oneCell' = true) := hide (by
      intro u hu
      simp at hu
      rcases hu with rfl | rfl | rfl | rfl | rfl | rfl | rfl <;> rfl)
    have q5 : W3.cell? ⟨l, 5, none⟩ = some (.slice ga U gc) := (HL3.out.cell 5 rfl).1
    have q5' : W3.drew.cell? ⟨l, 5, none⟩ = some (.slice ga U gc) := q5
    have q5'' : (W3.drew.alloc (.cells #[.int .i64 (U : Int), .int .i64 PR, .int .i64 SQ, .int .i64 co, .int .i64 oa, .int .i64 ob, .int .i64 rs] 53)).cell? ⟨l, 5, none⟩ = some (.slice ga U gc) := (World.cell?_of_block (a := ⟨l, 5, none⟩) (Below.heap_alloc W3.drew _ l HL3.out.lt)).trans q5'
    have q6 : (W3.alloc (.cells #[.int .i64 (U : Int), .int .i64 PR, .int .i64 SQ, .int .i64 co, .int .i64 oa, .int .i64 ob, .int .i64 rs] 53)).cell? ⟨l, 5, none⟩ = some (.slice ga U gc) := q5''
    obtain ⟨x0, -⟩ := HX3.out.cell 0 rfl
    obtain ⟨x1, -⟩ := HX3.out.cell 1 rfl
    obtain ⟨x2', -⟩ := HX3.out.cell 2 rfl
    obtain ⟨x3', -⟩ := HX3.out.cell 3 rfl
    obtain ⟨x4', -⟩ := HX3.out.cell 4 rfl
    have HX3D : Hid (Bk 86 W3.drew w.heap.size #[.int .i64 PR, .int .i64 SQ, .int .i64 co, .int .i64 oa, .int .i64 ob, .int .i64 Z5, .int .i64 Z6]) := hide (HX3.out.keep rfl)
    have HX3A : Hid (Bk 86 (W3.drew.alloc (.cells #[.int .i64 (U : Int), .int .i64 PR, .int .i64 SQ, .int .i64 co, .int .i64 oa, .int .i64 ob, .int .i64 rs] 53)) w.heap.size #[.int .i64 PR, .int .i64 SQ, .int .i64 co, .int .i64 oa, .int .i64 ob, .int .i64 Z5, .int .i64 Z6]) := hide (HX3D.out.keep (Below.heap_alloc _ _ _ HX3D.out.lt))
    have hLL := HLL.out
    clear hW3 z6 z7 z8 z9 y6 y7 y8 y9 c6 c7 c8 c9 b6 b7 b8 b9 x2 x3 x4 v2 v3 v4
    refine wp_region_held_drew (S := fun W => Bk 86 W w.heap.size #[.int .i64 PR, .int .i64 SQ, .int .i64 co, .int .i64 oa, .int .i64 ob, .int .i64 Z5, .int .i64 Z6]) (by kernel_rfl) HX3D.out (fun hHeld => ?_)
    refine wpAnyH_take (i := 0) (v := ?_) rfl (by kernel_rfl) (by kernel_rfl) (by kernel_rfl) (fun _ _ _ h => h) (Or.inl ⟨by rfl, ?_⟩) (by assumption) ?_
    rotate_left
    · intro wx hSw
      go_simp
      try with_reducible rfl
    simp only [Act.put, List.getElem_toArray, List.getElem_cons_zero, List.setIfInBounds_toArray]
    refine wpAnyH_take (i := 1) (v := ?_) rfl (by kernel_rfl) (by kernel_rfl) (by kernel_rfl) (fun _ _ _ h => h) (Or.inl ⟨by rfl, ?_⟩) (by assumption) ?_
    rotate_left
    · intro wx hSw
      go_simp
      try with_reducible rfl
    simp only [Act.put, List.getElem_toArray, List.getElem_cons_zero, List.getElem_cons_succ, List.setIfInBounds_toArray, List.set_cons_zero, List.set_cons_succ]
    refine wpAnyH_take (i := 2) (v := ?_) rfl (by kernel_rfl) (by kernel_rfl) (by kernel_rfl) (fun _ _ _ h => h) (Or.inl ⟨by rfl, ?_⟩) (by assumption) ?_
    rotate_left
    · intro wx hSw
      go_simp
      try with_reducible rfl
    simp only [Act.put, List.getElem_toArray, List.getElem_cons_zero, List.getElem_cons_succ, List.setIfInBounds_toArray, List.set_cons_zero, List.set_cons_succ]
    refine wpAnyH_take (i := 3) (v := ?_) rfl (by kernel_rfl) (by kernel_rfl) (by kernel_rfl) (fun _ _ _ h => h) (Or.inl ⟨by rfl, ?_⟩) (by assumption) ?_
    rotate_left
    · intro wx hSw
      go_simp
      try with_reducible rfl
    simp only [Act.put, List.getElem_toArray, List.getElem_cons_zero, List.getElem_cons_succ, List.setIfInBounds_toArray, List.set_cons_zero, List.set_cons_succ]
    refine wpAnyH_take (i := 5) (v := ?_) rfl (by kernel_rfl) (by kernel_rfl) (by kernel_rfl) (fun _ _ _ h => h) (Or.inl ⟨by rfl, ?_⟩) (by assumption) ?_
    rotate_left
    · intro wx hSw
      go_simp
      try with_reducible rfl
    simp only [Act.put, List.getElem_toArray, List.getElem_cons_zero, List.getElem_cons_succ, List.setIfInBounds_toArray, List.set_cons_zero, List.set_cons_succ]
    refine wpAnyH_take (i := 6) (v := ?_) rfl (by kernel_rfl) (by kernel_rfl) (by kernel_rfl) (fun _ _ _ h => h) (Or.inl ⟨by rfl, ?_⟩) (by assumption) ?_
    rotate_left
    · intro wx hSw
      go_simp
      try with_reducible rfl
    simp only [Act.put, List.getElem_toArray, List.getElem_cons_zero, List.getElem_cons_succ, List.setIfInBounds_toArray, List.set_cons_zero, List.set_cons_succ]
    refine wpAnyH_take (i := 7) (v := ?_) rfl (by kernel_rfl) (by kernel_rfl) (by kernel_rfl) (fun _ _ _ h => h) (Or.inl ⟨by rfl, ?_⟩) (by assumption) ?_
    rotate_left
    · intro wx hSw
      go_simp
      try with_reducible rfl
    simp only [Act.put, List.getElem_toArray, List.getElem_cons_zero, List.getElem_cons_succ, List.setIfInBounds_toArray, List.set_cons_zero, List.set_cons_succ]
    refine wpAnyH_take (i := 10) (v := ?_) rfl (by kernel_rfl) (by kernel_rfl) (by kernel_rfl) (fun _ _ _ h => h) (Or.inl ⟨by rfl, ?_⟩) (by assumption) ?_
    rotate_left
    · intro wx hSw
      go_simp
      try with_reducible rfl
    simp only [Act.put, List.getElem_toArray, List.getElem_cons_zero, List.getElem_cons_succ, List.setIfInBounds_toArray, List.set_cons_zero, List.set_cons_succ]
    refine wpAnyH_take (i := 11) (v := ?_) rfl (by kernel_rfl) (by kernel_rfl) (by kernel_rfl) (fun _ _ _ h => h) (Or.inl ⟨by rfl, ?_⟩) (by assumption) ?_
    rotate_left
    · intro wx hSw
      have hSx : Bk 86 wx w.heap.size #[.int .i64 PR, .int .i64 SQ, .int .i64 co, .int .i64 oa, .int .i64 ob, .int .i64 Z5, .int .i64 Z6] := hSw
      obtain ⟨s0, -⟩ := hSx.cell 0 rfl
      obtain ⟨s1, -⟩ := hSx.cell 1 rfl
      obtain ⟨s2, -⟩ := hSx.cell 2 rfl
      obtain ⟨s3, -⟩ := hSx.cell 3 rfl
      obtain ⟨s4, -⟩ := hSx.cell 4 rfl
      clear hSx hSw
      go_simp
      try with_reducible rfl
    simp only [Act.put, List.getElem_toArray, List.getElem_cons_zero, List.getElem_cons_succ, List.setIfInBounds_toArray, List.set_cons_zero, List.set_cons_succ]
    refine wpAnyH_take (i := 12) (v := ?_) rfl (by kernel_rfl) (by kernel_rfl) (by kernel_rfl) (fun _ _ _ h => h) (Or.inl ⟨by rfl, ?_⟩) (by assumption) ?_
    rotate_left
    · intro wx hSw
      go_simp
      try with_reducible rfl
    simp only [Act.put, List.getElem_toArray, List.getElem_cons_zero, List.getElem_cons_succ, List.setIfInBounds_toArray, List.set_cons_zero, List.set_cons_succ]
    refine wpAnyH_take (i := 13) (v := ?_) rfl (by kernel_rfl) (by kernel_rfl) (by kernel_rfl) (fun _ _ _ h => h) (Or.inl ⟨by rfl, ?_⟩) (by assumption) ?_
    rotate_left
    · intro wx hSw
      have hSx : Bk 86 wx w.heap.size #[.int .i64 PR, .int .i64 SQ, .int .i64 co, .int .i64 oa, .int .i64 ob, .int .i64 Z5, .int .i64 Z6] := hSw
      obtain ⟨s0, -⟩ := hSx.cell 0 rfl
      obtain ⟨s1, -⟩ := hSx.cell 1 rfl
      obtain ⟨s2, -⟩ := hSx.cell 2 rfl
      obtain ⟨s3, -⟩ := hSx.cell 3 rfl
      obtain ⟨s4, -⟩ := hSx.cell 4 rfl
      clear hSx hSw
      go_simp
      try with_reducible rfl
    simp only [Act.put, List.getElem_toArray, List.getElem_cons_zero, List.getElem_cons_succ, List.setIfInBounds_toArray, List.set_cons_zero, List.set_cons_succ]
    refine wpAnyH_take (i := 14) (v := ?_) rfl (by kernel_rfl) (by kernel_rfl) (by kernel_rfl) (fun _ _ _ h => h) (Or.inl ⟨by rfl, ?_⟩) (by assumption) ?_
    rotate_left
    · intro wx hSw
      go_simp
      try with_reducible rfl
    simp only [Act.put, List.getElem_toArray, List.getElem_cons_zero, List.getElem_cons_succ, List.setIfInBounds_toArray, List.set_cons_zero, List.set_cons_succ]
    refine wpAnyH_take (i := 15) (v := ?_) rfl (by kernel_rfl) (by kernel_rfl) (by kernel_rfl) (fun _ _ _ h => h) (Or.inl ⟨by rfl, ?_⟩) (by assumption) ?_
    rotate_left
    · intro wx hSw
      have hSx : Bk 86 wx w.heap.size #[.int .i64 PR, .int .i64 SQ, .int .i64 co, .int .i64 oa, .int .i64 ob, .int .i64 Z5, .int .i64 Z6] := hSw
      obtain ⟨s0, -⟩ := hSx.cell 0 rfl
      obtain ⟨s1, -⟩ := hSx.cell 1 rfl
      obtain ⟨s2, -⟩ := hSx.cell 2 rfl
      obtain ⟨s3, -⟩ := hSx.cell 3 rfl
      obtain ⟨s4, -⟩ := hSx.cell 4 rfl
      clear hSx hSw
      go_simp
      try with_reducible rfl
    simp only [Act.put, List.getElem_toArray, List.getElem_cons_zero, List.getElem_cons_succ, List.setIfInBounds_toArray, List.set_cons_zero, List.set_cons_succ]
    refine wpAnyH_take (i := 16) (v := ?_) rfl (by kernel_rfl) (by kernel_rfl) (by kernel_rfl) (fun _ _ _ h => h) (Or.inl ⟨by rfl, ?_⟩) (by assumption) ?_
    rotate_left
    · intro wx hSw
      go_simp
      try with_reducible rfl
    simp only [Act.put, List.getElem_toArray, List.getElem_cons_zero, List.getElem_cons_succ, List.setIfInBounds_toArray, List.set_cons_zero, List.set_cons_succ]
    refine wpAnyH_ready (rs := [4, 8]) (by kernel_rfl) (by simp) ?_
    refine AllReadyH.cons rfl (fun K' hK => ?_) (AllReadyH.cons rfl (fun K' hK => ?_) AllReadyH.nil)
    · go_simp
      refine hK.out _ _ (HX3D.out) (fun hHeld => ?_)
      clear hK K'
      refine wpAnyH_ready (rs := [8]) (by kernel_rfl) (by simp) ?_
      refine AllReadyH.cons rfl (fun K' hK => ?_) AllReadyH.nil
      go_simp
      refine hK.out _ _ (HX3D.out) (fun hHeld => ?_)
      clear hK K'
      refine wpAnyH_take (i := 9) (v := ?_) rfl (by kernel_rfl) (by kernel_rfl) (by kernel_rfl) (fun _ _ _ h => h) (Or.inl ⟨by rfl, ?_⟩) (by assumption) ?_
      rotate_left
      · intro wx hSw
        go_simp
        try with_reducible rfl
      simp only [Act.put, List.getElem_toArray, List.getElem_cons_zero, List.getElem_cons_succ, List.setIfInBounds_toArray, List.set_cons_zero, List.set_cons_succ]
      refine wpAnyH_take (i := 17) (v := ?_) rfl (by kernel_rfl) (by kernel_rfl) (by kernel_rfl) (fun _ _ _ h => h) (Or.inl ⟨by rfl, ?_⟩) (by assumption) ?_
      rotate_left
      · intro wx hSw
        go_simp
        try with_reducible rfl
      simp only [Act.put, List.getElem_toArray, List.getElem_cons_zero, List.getElem_cons_succ, List.setIfInBounds_toArray, List.set_cons_zero, List.set_cons_succ]
      refine wpAnyH_ready (rs := [18]) (by kernel_rfl) (by simp) ?_
      refine AllReadyH.cons rfl (fun K' hK => ?_) AllReadyH.nil
      go_simp
      refine hK.out _ _ (HX3A.out) (fun hHeld => ?_)
      clear hK K'
      refine wpAnyH_ready (rs := [19]) (by kernel_rfl) (by simp) ?_
      refine AllReadyH.cons rfl (fun K' hK => ?_) AllReadyH.nil
      refine step_append_one 37 53 7 56 _ Try.underlying37 info_rec7 rfl (by decide) (by decide) (by rfl) _ _ (by rfl) (.slice ga U gc) U (recCells e.log) (by rfl) #[.int .i64 (U : Int), .int .i64 PR, .int .i64 SQ, .int .i64 co, .int .i64 oa, .int .i64 ob, .int .i64 rs] W3.drew (by rfl) HLG3.out (by rfl) HOC.out (by rfl) HLL.out ?_
      intro v9 W9 ho9 hg9 hv9
      obtain ⟨hA, t1, t2, hx9, hx9'⟩ := HF3.out v9 W9 ho9 hg9 hv9
      have HA9 := hide hA
      have HX9 := hide hx9
      have HX9' := hide hx9'
      obtain ⟨z1, z3, z2, hz⟩ : ∃ a n c, v9 = Value.slice a n c := (by obtain ⟨a, c, h⟩ := row_form ho9; exact ⟨_, _, _, h⟩)
      subst hz
      clear hA ho9 hg9 hv9 hx9 hx9'
      refine hK.out _ _ (HX9.out) (fun hHeld => ?_)
      clear hK K'
      simp only [Act.put, List.getElem_toArray, List.getElem_cons_zero, List.getElem_cons_succ, List.setIfInBounds_toArray, List.set_cons_zero, List.set_cons_succ]
      refine wpAnyH_take (i := 20) (v := ?_) rfl (by kernel_rfl) (by kernel_rfl) (by kernel_rfl) (fun _ _ _ h => h) (Or.inl ⟨by rfl, ?_⟩) (by assumption) ?_
      rotate_left
      · intro wx hSw
        go_simp
        try with_reducible rfl
      simp only [Act.put, List.getElem_toArray, List.getElem_cons_zero, List.getElem_cons_succ, List.setIfInBounds_toArray, List.set_cons_zero, List.set_cons_succ]
      refine wpAnyH_take (i := 21) (v := ?_) rfl (by kernel_rfl) (by kernel_rfl) (by kernel_rfl) (fun _ _ _ h => h) (Or.inl ⟨by rfl, ?_⟩) (by assumption) ?_
      rotate_left
      · intro wx hSw
        go_simp
        try with_reducible rfl
      simp only [Act.put, List.getElem_toArray, List.getElem_cons_zero, List.getElem_cons_succ, List.setIfInBounds_toArray, List.set_cons_zero, List.set_cons_succ]
      refine wpAnyH_ready (rs := [22]) (by kernel_rfl) (by simp) ?_
      refine AllReadyH.cons rfl (fun K' hK => ?_) AllReadyH.nil
      go_simp
      refine hK.out _ _ (HX9'.out) (fun hHeld => ?_)
      clear hK K'
      refine wpAnyH_done (by kernel_rfl) ?_ _
      go_wp2
      go_end0
      exact ⟨rfl, HA9.out⟩
    · go_simp
      refine hK.out _ _ (HX3D.out) (fun hHeld => ?_)
      clear hK K'
      refine wpAnyH_take (i := 9) (v := ?_) rfl (by kernel_rfl) (by kernel_rfl) (by kernel_rfl) (fun _ _ _ h => h) (Or.inl ⟨by rfl, ?_⟩) (by assumption) ?_
      rotate_left
      · intro wx hSw
        go_simp
        try with_reducible rfl
      simp only [Act.put, List.getElem_toArray, List.getElem_cons_zero, List.getElem_cons_succ, List.setIfInBounds_toArray, List.set_cons_zero, List.set_cons_succ]
      refine wpAnyH_take (i := 17) (v := ?_) rfl (by kernel_rfl) (by kernel_rfl) (by kernel_rfl) (fun _ _ _ h => h) (Or.inl ⟨by rfl, ?_⟩) (by assumption) ?_
      rotate_left
      · intro wx hSw
        go_simp
        try with_reducible rfl
      simp only [Act.put, List.getElem_toArray, List.getElem_cons_zero, List.getElem_cons_succ, List.setIfInBounds_toArray, List.set_cons_zero, List.set_cons_succ]
      refine wpAnyH_ready (rs := [4, 18]) (by kernel_rfl) (by simp) ?_
      refine AllReadyH.cons rfl (fun K' hK => ?_) (AllReadyH.cons rfl (fun K' hK => ?_) AllReadyH.nil)
      · go_simp
        refine hK.out _ _ (HX3D.out) (fun hHeld => ?_)
        clear hK K'
        refine wpAnyH_ready (rs := [18]) (by kernel_rfl) (by simp) ?_
        refine AllReadyH.cons rfl (fun K' hK => ?_) AllReadyH.nil
        go_simp
        refine hK.out _ _ (HX3A.out) (fun hHeld => ?_)
        clear hK K'
        refine wpAnyH_ready (rs := [19]) (by kernel_rfl) (by simp) ?_
        refine AllReadyH.cons rfl (fun K' hK => ?_) AllReadyH.nil
        refine step_append_one 37 53 7 56 _ Try.underlying37 info_rec7 rfl (by decide) (by decide) (by rfl) _ _ (by rfl) (.slice ga U gc) U (recCells e.log) (by rfl) #[.int .i64 (U : Int), .int .i64 PR, .int .i64 SQ, .int .i64 co, .int .i64 oa, .int .i64 ob, .int .i64 rs] W3.drew (by rfl) HLG3.out (by rfl) HOC.out (by rfl) HLL.out ?_
        intro v9 W9 ho9 hg9 hv9
        obtain ⟨hA, t1, t2, hx9, hx9'⟩ := HF3.out v9 W9 ho9 hg9 hv9
        have HA9 := hide hA
        have HX9 := hide hx9
        have HX9' := hide hx9'
        obtain ⟨z1, z3, z2, hz⟩ : ∃ a n c, v9 = Value.slice a n c := (by obtain ⟨a, c, h⟩ := row_form ho9; exact ⟨_, _, _, h⟩)
        subst hz
        clear hA ho9 hg9 hv9 hx9 hx9'
        refine hK.out _ _ (HX9.out) (fun hHeld => ?_)
        clear hK K'
        simp only [Act.put, List.getElem_toArray, List.getElem_cons_zero, List.getElem_cons_succ, List.setIfInBounds_toArray, List.set_cons_zero, List.set_cons_succ]
        refine wpAnyH_take (i := 20) (v := ?_) rfl (by kernel_rfl) (by kernel_rfl) (by kernel_rfl) (fun _ _ _ h => h) (Or.inl ⟨by rfl, ?_⟩) (by assumption) ?_
        rotate_left
        · intro wx hSw
          go_simp
          try with_reducible rfl
        simp only [Act.put, List.getElem_toArray, List.getElem_cons_zero, List.getElem_cons_succ, List.setIfInBounds_toArray, List.set_cons_zero, List.set_cons_succ]
        refine wpAnyH_take (i := 21) (v := ?_) rfl (by kernel_rfl) (by kernel_rfl) (by kernel_rfl) (fun _ _ _ h => h) (Or.inl ⟨by rfl, ?_⟩) (by assumption) ?_
        rotate_left
        · intro wx hSw
          go_simp
          try with_reducible rfl
        simp only [Act.put, List.getElem_toArray, List.getElem_cons_zero, List.getElem_cons_succ, List.setIfInBounds_toArray, List.set_cons_zero, List.set_cons_succ]
        refine wpAnyH_ready (rs := [22]) (by kernel_rfl) (by simp) ?_
        refine AllReadyH.cons rfl (fun K' hK => ?_) AllReadyH.nil
        go_simp
        refine hK.out _ _ (HX9'.out) (fun hHeld => ?_)
        clear hK K'
        refine wpAnyH_done (by kernel_rfl) ?_ _
        go_wp2
        go_end0
        exact ⟨rfl, HA9.out⟩
      · go_simp
        refine hK.out _ _ (HX3A.out) (fun hHeld => ?_)
        clear hK K'
        refine wpAnyH_ready (rs := [4]) (by kernel_rfl) (by simp) ?_
        refine AllReadyH.cons rfl (fun K' hK => ?_) AllReadyH.nil
        go_simp
        refine hK.out _ _ (HX3A.out) (fun hHeld => ?_)
        clear hK K'
        refine wpAnyH_ready (rs := [19]) (by kernel_rfl) (by simp) ?_
        refine AllReadyH.cons rfl (fun K' hK => ?_) AllReadyH.nil
        refine step_append_one 37 53 7 56 _ Try.underlying37 info_rec7 rfl (by decide) (by decide) (by rfl) _ _ (by rfl) (.slice ga U gc) U (recCells e.log) (by rfl) #[.int .i64 (U : Int), .int .i64 PR, .int .i64 SQ, .int .i64 co, .int .i64 oa, .int .i64 ob, .int .i64 rs] W3.drew (by rfl) HLG3.out (by rfl) HOC.out (by rfl) HLL.out ?_
        intro v9 W9 ho9 hg9 hv9
        obtain ⟨hA, t1, t2, hx9, hx9'⟩ := HF3.out v9 W9 ho9 hg9 hv9
        have HA9 := hide hA
        have HX9 := hide hx9
        have HX9' := hide hx9'
        obtain ⟨z1, z3, z2, hz⟩ : ∃ a n c, v9 = Value.slice a n c := (by obtain ⟨a, c, h⟩ := row_form ho9; exact ⟨_, _, _, h⟩)
        subst hz
        clear hA ho9 hg9 hv9 hx9 hx9'
        refine hK.out _ _ (HX9.out) (fun hHeld => ?_)
        clear hK K'
        simp only [Act.put, List.getElem_toArray, List.getElem_cons_zero, List.getElem_cons_succ, List.setIfInBounds_toArray, List.set_cons_zero, List.set_cons_succ]
        refine wpAnyH_take (i := 20) (v := ?_) rfl (by kernel_rfl) (by kernel_rfl) (by kernel_rfl) (fun _ _ _ h => h) (Or.inl ⟨by rfl, ?_⟩) (by assumption) ?_
        rotate_left
        · intro wx hSw
          go_simp
          try with_reducible rfl
        simp only [Act.put, List.getElem_toArray, List.getElem_cons_zero, List.getElem_cons_succ, List.setIfInBounds_toArray, List.set_cons_zero, List.set_cons_succ]
        refine wpAnyH_take (i := 21) (v := ?_) rfl (by kernel_rfl) (by kernel_rfl) (by kernel_rfl) (fun _ _ _ h => h) (Or.inl ⟨by rfl, ?_⟩) (by assumption) ?_
        rotate_left
        · intro wx hSw
          go_simp
          try with_reducible rfl
        simp only [Act.put, List.getElem_toArray, List.getElem_cons_zero, List.getElem_cons_succ, List.setIfInBounds_toArray, List.set_cons_zero, List.set_cons_succ]
        refine wpAnyH_ready (rs := [22]) (by kernel_rfl) (by simp) ?_
        refine AllReadyH.cons rfl (fun K' hK => ?_) AllReadyH.nil
        go_simp
        refine hK.out _ _ (HX9'.out) (fun hHeld => ?_)
        clear hK K'
        refine wpAnyH_done (by kernel_rfl) ?_ _
        go_wp2
        go_end0
        exact ⟨rfl, HA9.out⟩

end Go.Proofs.Ytiofhmlkgieclaa
