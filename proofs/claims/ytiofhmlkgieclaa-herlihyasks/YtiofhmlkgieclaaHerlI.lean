/- Herlihy's engine: a new node, and an operation's beginning. -/
import Derived.Test.YtiofhmlkgieclaaHerlH
namespace Go.Proofs.Ytiofhmlkgieclaa
open Go.RowKit Go.Maps Go.ChangeShapes

theorem info_nd7 : (Try.prog.info? 86).map (fun i => (i.zero, i.size, i.bytes)) = some (some (.agg #[.int .i64 0, .int .i64 0, .int .i64 0, .int .i64 0, .int .i64 0, .int .i64 0, .int .i64 0]), 7, 56) := by kernel_rfl

def nodeE (e : Eg) (d : Nd) : Eg := { e with nodes := e.nodes ++ [d] }

/-- What a new node leaves. -/
def NodeDid (w : World) (eb : Nat) (L : HL) (x : Nat → Value) (e : Eg) (N : Nat) (d : Nd) (w' : World) : Prop :=
  ∃ nv' M', EgL w' eb { L with nv := nv' } x (nodeE e d) M' N ∧ Only (fun j => j = L.l ∨ L.nv.ownBlock = some j ∨ j = L.m) w w' ∧ (∀ j, nv'.ownBlock = some j → L.nv.ownBlock = some j ∨ w.heap.size ≤ j)

theorem NodeDid.of {w W w' : World} {eb : Nat} {L : HL} {x : Nat → Value} {e : Eg} {M : Mc} {N : Nat} {nv' : Value} {d : Nd} (h : EgL w eb L x e M N) (hx : e.nxt e.nodes.length = 0) (hp : e.plc e.nodes.length = 0)
    (hm : MacL W L.m L.mc L.ms (cellsM M 2) N) (h0 : Only (fun j => j = L.m) w W) (ho : Only (fun j => L.nv.ownBlock = some j) W w')
    (hnv : w'.ownsRow 0 86 7 nv' (e.nodes.length + 1) (ndCells e.n 0 (e.nodes ++ [d]))) (hv : nv'.ownBlock = L.nv.ownBlock ∨ ∃ j, nv'.ownBlock = some j ∧ W.heap.size ≤ j) : NodeDid w eb L x e N d (w'.setCell ⟨L.l, 4, none⟩ nv') := by
  have A := h.apt
  have hsz := h0.size
  have oA : Only (fun j => j = L.l ∨ L.nv.ownBlock = some j ∨ j = L.m) w w' := (h0.mono fun _ k => .inr (.inr k)).trans (ho.mono fun _ k => .inr (.inl k)) fun _ _ k => k
  have oB : Only (fun j => j = L.l ∨ L.nv.ownBlock = some j) W (w'.setCell ⟨L.l, 4, none⟩ nv') := (ho.mono fun _ k => .inr k).setCell 4 (fun _ => .inl rfl) nv'
  have o2 : Only (fun j => j = L.l ∨ L.nv.ownBlock = some j ∨ j = L.m) w (w'.setCell ⟨L.l, 4, none⟩ nv') := oA.setCell 4 (fun _ => .inl rfl) nv'
  have mb := h.mac.head
  have nvm : ∀ g, L.nv.ownBlock = some g → g ≠ L.m := fun g hg => (A.nv_ g hg).2.2.2.2.1
  have kb : ∀ {t : TypeId} {b : Nat} {cs : Array Value}, Bk t w b cs → b ≠ L.l → L.nv.ownBlock ≠ some b → b ≠ L.m → Bk t (w'.setCell ⟨L.l, 4, none⟩ nv') b cs := fun hb h1 h2 h3 => hb.only o2 fun g => g.elim h1 fun g => g.elim h2 h3
  have hl2 : Bk 73 w' L.l (lsC e.n L.m L.nv L.lv L.sv e.st) := (h.list.only h0 A.l_.2.2.2.2.1).only ho A.l_.2.2.1
  have hnvne : ∀ g, nv'.ownBlock = some g → g ≠ L.l := fun g hg e1 => by
    obtain ⟨cs, hb'⟩ := row_bk hnv hg
    rw [e1] at hb'
    exact (hb'.ne hl2 (by decide)) rfl
  have nv2 : ∀ j, nv'.ownBlock = some j → L.nv.ownBlock = some j ∨ w.heap.size ≤ j := fun j hj => by
    rcases hv with hv | ⟨i, hi, hi2⟩
    · exact .inl (by rw [← hv]; exact hj)
    · rw [hi] at hj
      obtain rfl := Option.some.inj hj
      exact .inr (by omega)
  have hrel := h.rel
  have hcl : (cellsM M 2).len = M.len + 2 := by unfold cellsM; rw [if_pos ⟨by omega, by omega⟩]; rfl
  have hcc : (cellsM M 2).c = M.c := by unfold cellsM; split <;> rfl
  have hcs : (cellsM M 2).s = M.s := by unfold cellsM; split <;> rfl
  have hcp : (cellsM M 2).procs = M.procs := by unfold cellsM; split <;> rfl
  refine ⟨nv', cellsM M 2, ⟨kb h.head A.l_.1.symm (fun e1 => (A.nv_ _ e1).1 rfl) ?_, ?_, hl2.set 4 nv', ?_, ?_, ?_, ?_, fun p hp' => ?_, h.inj, ?_, ?_⟩, o2, nv2⟩
  · exact fun e1 => (h.head.ne mb (by decide)) e1
  · exact ownsRow_keep h.procs fun g hg => o2.block _ (row_bk h.procs hg).choose_spec.lt fun e1 => e1.elim (fun e1 => A.l_.2.1 (by rw [← e1]; exact hg)) fun e1 => e1.elim (fun e1 => (A.nv_ _ e1).2.1 hg) (fun e1 => (((row_bk h.procs hg).choose_spec).ne mb (by decide)) e1)
  · have e1 : (nodeE e d).nodes.length = e.nodes.length + 1 := by unfold nodeE; simp
    rw [e1]
    exact ownsRow_keep hnv fun g hg => Below.heap_setCell _ _ _ _ (hnvne g hg)
  · exact ownsRow_keep h.log fun g hg => o2.block _ (row_bk h.log hg).choose_spec.lt fun e1 => e1.elim (fun e1 => (A.lv_ g hg).2.2.2.1 e1) fun e1 => e1.elim (fun e1 => (A.lv_ g hg).2.2.1 e1) (fun e1 => (A.lv_ g hg).2.2.2.2.1 e1)
  · refine h.st.onlyE o2 (h.stn.imp id fun a g hg e1 => a g hg ?_)
    unfold HasE
    rcases e1 with e1 | e1 | e1 <;> simp [e1]
  · exact hm.keep (oB.block _ hm.head.lt fun e1 => e1.elim (fun e1 => A.l_.2.2.2.2.1 e1.symm) (fun e1 => nvm _ e1 rfl)) (oB.block _ hm.cells.lt fun e1 => e1.elim (fun e1 => A.l_.2.2.2.2.2.1 e1.symm) (fun e1 => (A.nv_ _ e1).2.2.2.2.2.1 rfl))
      (oB.block _ hm.steps.lt fun e1 => e1.elim (fun e1 => A.l_.2.2.2.2.2.2 e1.symm) (fun e1 => (A.nv_ _ e1).2.2.2.2.2.2.1 rfl))
  · exact kb (h.pr p hp') ((A.eb_ _ (.inr (.inr ⟨p, hp', rfl⟩))).2.2.1) (fun e1 => (A.nv_ _ e1).2.2.2.2.2.2.2 p hp' rfl) (A.m_ p hp').1
  · rcases h.stn with a | a
    · exact .inl a
    by_cases hnil : e.st.L = []
    · exact .inl hnil
    refine .inr fun g hg hh => ?_
    have hold := a g hg
    have hg1 : g < w.heap.size := by
      obtain ⟨ao, cap, hv', _, _, _, _, h4⟩ := h.st
      rcases h4 with h4 | ⟨b, off, h5, h6⟩
      · exact absurd h4 hnil
      · rw [hv', h5] at hg
        obtain rfl := Option.some.inj hg
        exact World.block_lt_of_cell? w _ (h6 0 (List.length_pos_iff.2 hnil))
    unfold HasE at hh hold
    rcases hh with hh | hh | hh | hh | hh | hh | hh | hh | hh
    · exact hold (.inl hh)
    · exact hold (.inr (.inl hh))
    · exact hold (.inr (.inr (.inl hh)))
    · exact hold (.inr (.inr (.inr (.inl hh))))
    · exact hold (.inr (.inr (.inr (.inr (.inl hh)))))
    · exact hold (.inr (.inr (.inr (.inr (.inr (.inl hh))))))
    · rcases nv2 g hh with a1 | a1
      · exact hold (.inr (.inr (.inr (.inr (.inr (.inr (.inl a1)))))))
      · omega
    · exact hold (.inr (.inr (.inr (.inr (.inr (.inr (.inr (.inl hh))))))))
    · exact hold (.inr (.inr (.inr (.inr (.inr (.inr (.inr (.inr hh))))))))
  · have c0 := h.mac.ok.c0
    have hl := hrel.len
    have e1 : (nodeE e d).nodes.length = e.nodes.length + 1 := by unfold nodeE; simp
    refine ⟨by rw [hcp]; exact hrel.procs, by rw [hcl, hl, e1]; show _ = 2 * e.n + _; omega, by rw [hcc]; exact hrel.ann, by rw [hcc]; exact hrel.head, fun k hk => ?_, fun k hk => ?_, by rw [hcs]; exact hrel.s⟩
    · rw [e1] at hk
      rw [hcc]
      by_cases a : k = e.nodes.length
      · rw [a]
        show M.c (2 * (e.n : Int) + 2 * (e.nodes.length : Int)) = (e.nxt e.nodes.length : Int)
        rw [hx]
        exact c0 _ (decide_eq_false (by omega))
      · exact hrel.nxt k (by omega)
    · rw [e1] at hk
      rw [hcc]
      by_cases a : k = e.nodes.length
      · rw [a]
        show M.c (2 * (e.n : Int) + 2 * (e.nodes.length : Int) + 1) = (e.plc e.nodes.length : Int)
        rw [hp]
        exact c0 _ (decide_eq_false (by omega))
      · exact hrel.plc k (by omega)

set_option maxRecDepth 100000 in
set_option maxHeartbeats 4000000 in
/-- A new node, whatever else there is. -/
theorem newNode_raw {w : World} {l m mc ms n T gc N : Nat} {ga : Option Addr} {lv sv : Value} {s : St} {M : Mc} {XS : List Value} {PR SQ co oa ob Z : Int} {Post : World → Prop} (hZ : 0 ≤ Z ∧ Z ≤ 900000000) (hT : T ≤ 2000000)
    (HC : Hid (∀ W, Below w.heap.size w W → Calls Try.prog 37 #[ptr m, .int .i64 2] W fun r w' => r = .returned (.int .i64 Z) ∧ MacL w' m mc ms (cellsM M 2) N ∧ Only (fun k => k = m) W w'))
    (HLB : Hid (Bk 73 w l (lsC n m (.slice ga T gc) lv sv s))) (HNO : Hid (w.ownsRow 0 86 7 (.slice ga T gc) T XS)) (HNB : Hid (∀ g, (Value.slice ga T gc).ownBlock = some g → g < w.heap.size ∧ g ≠ l ∧ g ≠ m)) (HLM : Hid (l ≠ m ∧ m < w.heap.size))
    (HE : Hid (∀ W1 W w' nv', Below w.heap.size w W1 → MacL W m mc ms (cellsM M 2) N → Only (fun j => j = m) W1 W → Only (fun j => (Value.slice ga T gc).ownBlock = some j) W w' → w'.ownsRow 0 86 7 nv' (T + 1) (XS ++ (#[.int .i64 PR, .int .i64 SQ, .int .i64 co, .int .i64 oa, .int .i64 ob, .int .i64 Z, .int .i64 (Z + 1)] : Array Value).toList) → (nv'.ownBlock = (Value.slice ga T gc).ownBlock ∨ ∃ j, nv'.ownBlock = some j ∧ W.heap.size ≤ j) → Bk 73 (w'.setCell ⟨l, 4, none⟩ nv') l (lsC n m nv' lv sv s) → Post (w'.setCell ⟨l, 4, none⟩ nv'))) :
    Calls Try.prog 38 #[ptr l, .int .i64 PR, .int .i64 SQ, .agg #[.int .i64 co, .int .i64 oa, .int .i64 ob]] w fun r w' => r = .returned (.int .i64 (T : Int)) ∧ Post w' := by
  have hbx : Below w.heap.size w (w.alloc (.cells #[.int .i64 co, .int .i64 oa, .int .i64 ob] 26)) := (Below.refl _ _).alloc (Nat.le_refl _) _
  obtain ⟨W1, hW1⟩ : ∃ W1, W1 = w.alloc (.cells #[.int .i64 co, .int .i64 oa, .int .i64 ob] 26) := ⟨_, rfl⟩
  have hxb : Bk 26 W1 w.heap.size #[.int .i64 co, .int .i64 oa, .int .i64 ob] := by rw [hW1]; exact heap_alloc_new _ _
  rw [← hW1] at hbx
  have HBX := hide hbx
  have HXB := hide hxb
  have HL1 : Hid (Bk 73 W1 l (lsC n m (.slice ga T gc) lv sv s)) := hide (HLB.out.keep (hbx.block _ HLB.out.lt))
  have c1 : W1.cell? ⟨l, 1, none⟩ = some (ptr m) := (HL1.out.cell 1 rfl).1
  have HW1 := hide hW1
  have hw : IntKind.i64.wrap (Z + 1) = Z + 1 := wrap_lit _ (by omega) (by omega)
  have HLEN : Hid (T ≤ 10000000) := hide (by omega)
  have hwl : IntKind.i64.wrap ((T + 1 : Nat) : Int) = ((T + 1 : Nat) : Int) := wrap_lit _ (by omega) (by omega)
  have hwm : IntKind.i64.wrap (((T + 1 : Nat) : Int) - 1) = (T : Int) := by rw [wrap_lit _ (by omega) (by omega)]; omega
  have hwm2 : IntKind.i64.wrap ((T : Int) + 1 - 1) = (T : Int) := by rw [wrap_lit _ (by omega) (by omega)]; omega
  have hwm3 : IntKind.i64.wrap (T : Int) = (T : Int) := wrap_lit _ (by omega) (by omega)
  clear hZ hT hbx hxb hW1
  go_enter Try.func38, Try.ntmps38
  go_upto_region 1 with fail
  rw [← HW1.out]
  go_wp2_with fail
  refine (HC.out _ HBX.out).mono ?_
  rintro r W2 ⟨rfl, hm2, ho2⟩
  have HM2 := hide hm2
  have HO2 := hide ho2
  clear hm2 ho2 c1
  go_upto_region 2 with fail
  have HL2 : Hid (Bk 73 W2 l (lsC n m (.slice ga T gc) lv sv s)) := hide (HL1.out.only HO2.out HLM.out.1)
  have HX2 : Hid (Bk 26 W2 w.heap.size #[.int .i64 co, .int .i64 oa, .int .i64 ob]) := hide (HXB.out.only HO2.out (by have := HLM.out.2; omega))
  have HN2 : Hid (W2.drew.ownsRow 0 86 7 (.slice ga T gc) T XS) := hide (ownsRow_keep HNO.out fun g hg => by
    obtain ⟨g1, g2, g3⟩ := HNB.out g hg
    rw [← HBX.out.block g g1]
    exact HO2.out.block g (by have := HBX.out.size; omega) g3)
  have HF : Hid (∀ v' w', w'.ownsRow 0 86 7 v' (T + 1) (XS ++ (#[.int .i64 PR, .int .i64 SQ, .int .i64 co, .int .i64 oa, .int .i64 ob, .int .i64 Z, .int .i64 (Z + 1)] : Array Value).toList) → (W2.drew.alloc (.cells #[.int .i64 PR, .int .i64 SQ, .int .i64 co, .int .i64 oa, .int .i64 ob, .int .i64 Z, .int .i64 (Z + 1)] 86)).grownBy w' (Value.slice ga T gc).ownBlock → (v'.ownBlock = (Value.slice ga T gc).ownBlock ∨ v'.ownBlock = some (W2.drew.heap.size + 1)) →
      Post (w'.setCell ⟨l, 4, none⟩ v') ∧ w'.cell? ⟨l, 4, none⟩ = some (.slice ga T gc) ∧ w'.frozen? ⟨l, 4, none⟩ = false ∧ (w'.setCell ⟨l, 4, none⟩ v').cell? ⟨l, 4, none⟩ = some v') := hide fun v' w' ho hg hv => by
    have h4 : Only (fun j => (Value.slice ga T gc).ownBlock = some j) W2.drew w' := grown_only hg
    have h5 : Only (fun j => j = m) W1 W2.drew := HO2.out.drewN 1
    have hl3 : Bk 73 W2.drew l (lsC n m (.slice ga T gc) lv sv s) := HL2.out.keep rfl
    have hl4 := hl3.only h4 fun e1 => (HNB.out _ e1).2.1 rfl
    refine ⟨HE.out W1 W2.drew w' v' HBX.out (HM2.out.keep rfl rfl rfl) h5 h4 ho (hv.imp id fun hv => ⟨_, hv, Nat.le_succ _⟩) (hl4.set 4 v'), (hl4.cell 4 rfl).1, (hl4.cell 4 rfl).2, ((hl4.set 4 v').cell 4 rfl).1⟩
  have HOC : Hid (∀ u ∈ (#[.int .i64 PR, .int .i64 SQ, .int .i64 co, .int .i64 oa, .int .i64 ob, .int .i64 Z, .int .i64 (Z + 1)] : Array Value).toList, u.oneCell' = true) := hide (by
    intro u hu
    simp at hu
    rcases hu with rfl | rfl | rfl | rfl | rfl | rfl | rfl <;> rfl)
  have q4 : W2.cell? ⟨l, 4, none⟩ = some (.slice ga T gc) := (HL2.out.cell 4 rfl).1
  have q4' : W2.drew.cell? ⟨l, 4, none⟩ = some (.slice ga T gc) := q4
  have q4a : (W2.alloc (.cells #[.int .i64 PR, .int .i64 SQ, .int .i64 co, .int .i64 oa, .int .i64 ob, .int .i64 Z, .int .i64 (Z + 1)] 86)).cell? ⟨l, 4, none⟩ = some (.slice ga T gc) := (World.cell?_of_block (a := ⟨l, 4, none⟩) (Below.heap_alloc W2 _ l HL2.out.lt)).trans q4
  have q4b : (W2.drew.alloc (.cells #[.int .i64 PR, .int .i64 SQ, .int .i64 co, .int .i64 oa, .int .i64 ob, .int .i64 Z, .int .i64 (Z + 1)] 86)).cell? ⟨l, 4, none⟩ = some (.slice ga T gc) := q4a
  obtain ⟨x0, -⟩ := HX2.out.cell 0 rfl
  obtain ⟨x1, -⟩ := HX2.out.cell 1 rfl
  obtain ⟨x2, -⟩ := HX2.out.cell 2 rfl
  go_region_law (refine step_append_one 71 86 7 56 _ Try.underlying71 info_nd7 rfl (by decide) (by decide) (by rfl) _ _ (by rfl) (.slice ga T gc) T XS (by rfl) #[.int .i64 PR, .int .i64 SQ, .int .i64 co, .int .i64 oa, .int .i64 ob, .int .i64 Z, .int .i64 (Z + 1)] W2.drew (by rfl) HN2.out (by rfl) HOC.out (by rfl) HLEN.out ?_; intro v9 W9 ho9 hg9 hv9; obtain ⟨hA, t1, t2, t3⟩ := HF.out v9 W9 ho9 hg9 hv9; have HA9 := hide hA; obtain ⟨z1, z2, hz⟩ : ∃ a c, v9 = Value.slice a (T + 1) c := (by obtain ⟨a, c, h⟩ := row_form ho9; exact ⟨_, _, h⟩); subst hz; clear hA ho9 hg9 hv9)
  all_goals
    obtain ⟨W3, hW3⟩ : ∃ W3, W3 = W9.setCell ⟨l, 4, none⟩ (.slice z1 (T + 1) z2) := ⟨_, rfl⟩
    go_upto_region 3 with fail
    rw [← hW3] at HA9 t3 ⊢
    clear hW3 t1 t2
    go_wp2
    go_ret
    exact ⟨rfl, HA9.out⟩

set_option maxRecDepth 100000 in
set_option maxHeartbeats 4000000 in
theorem newNode_any {w : World} {eb : Nat} {L : HL} {x : Nat → Value} {e : Eg} {M : Mc} {N : Nat} (h : EgL w eb L x e M N) (hlen : e.nodes.length ≤ 2000000) (hn : e.n ≤ 64) (hx : e.nxt e.nodes.length = 0) (hp : e.plc e.nodes.length = 0) (pr sq : Nat) (o : Opn) :
    Calls Try.prog 38 #[ptr L.l, .int .i64 (pr : Int), .int .i64 (sq : Int), opV o] w fun r w' => r = .returned (.int .i64 (e.nodes.length : Int)) ∧ NodeDid w eb L x e N ⟨pr, sq, o⟩ w' := by
  obtain ⟨co, oa, ob⟩ := o
  obtain ⟨PR, hPR⟩ : ∃ PR : Int, PR = (pr : Int) := ⟨_, rfl⟩
  obtain ⟨SQ, hSQ⟩ : ∃ SQ : Int, SQ = (sq : Int) := ⟨_, rfl⟩
  obtain ⟨Z, hZ⟩ : ∃ Z : Int, Z = 2 * (e.n : Int) + 2 * (e.nodes.length : Int) := ⟨_, rfl⟩
  have hMl : (M.len : Int) = Z := by have := h.rel.len; omega
  rw [← hPR, ← hSQ]
  have A := h.apt
  have HC : Hid (∀ W, Below w.heap.size w W → Calls Try.prog 37 #[ptr L.m, .int .i64 2] W fun r w' => r = .returned (.int .i64 Z) ∧ MacL w' L.m L.mc L.ms (cellsM M 2) N ∧ Only (fun k => k = L.m) W w') := hide fun W hb => by
    rw [← hMl]
    exact cellsM_any (h.below hb).mac 2 (by have := h.rel.len; simp; omega)
  obtain ⟨ga, gc, hnv⟩ := row_form h.nodes
  have HE : Hid (∀ W1 W w' nv', Below w.heap.size w W1 → MacL W L.m L.mc L.ms (cellsM M 2) N → Only (fun j => j = L.m) W1 W → Only (fun j => L.nv.ownBlock = some j) W w' → w'.ownsRow 0 86 7 nv' (e.nodes.length + 1) (ndCells e.n 0 e.nodes ++ (#[.int .i64 PR, .int .i64 SQ, .int .i64 co, .int .i64 oa, .int .i64 ob, .int .i64 Z, .int .i64 (Z + 1)] : Array Value).toList) → (nv'.ownBlock = L.nv.ownBlock ∨ ∃ j, nv'.ownBlock = some j ∧ W.heap.size ≤ j) → Bk 73 (w'.setCell ⟨L.l, 4, none⟩ nv') L.l (lsC e.n L.m nv' L.lv L.sv e.st) → NodeDid w eb L x e N ⟨pr, sq, ⟨co, oa, ob⟩⟩ (w'.setCell ⟨L.l, 4, none⟩ nv')) := hide fun W1 W w' nv' a1 a2 a3 a4 a5 a6 _ => by
    refine NodeDid.of h hx hp a2 ((Only.ofBelow a1).trans a3 fun _ _ k => k) a4 ?_ a6
    rw [ndCells_app, Nat.zero_add]
    rw [hPR, hSQ, hZ] at a5
    exact a5
  have HNO : Hid (w.ownsRow 0 86 7 L.nv e.nodes.length (ndCells e.n 0 e.nodes)) := hide h.nodes
  have HNB : Hid (∀ g, L.nv.ownBlock = some g → g < w.heap.size ∧ g ≠ L.l ∧ g ≠ L.m) := hide fun g hg => ⟨(row_bk h.nodes hg).choose_spec.lt, (A.nv_ g hg).2.2.2.1, (A.nv_ g hg).2.2.2.2.1⟩
  have HLB : Hid (Bk 73 w L.l (lsC e.n L.m L.nv L.lv L.sv e.st)) := hide h.list
  have HLM : Hid (L.l ≠ L.m ∧ L.m < w.heap.size) := hide ⟨A.l_.2.2.2.2.1, h.mac.head.lt⟩
  rw [hnv] at HE HNO HNB HLB
  unfold opV
  exact newNode_raw ⟨by omega, by omega⟩ hlen HC HLB HNO HNB HLM HE

end Go.Proofs.Ytiofhmlkgieclaa
