/- Contract of objs: Fold. -/
import Derived.Test.YtanmjihiceibbabObjsAwake
namespace Go.Proofs.Ytanmjihiceibbab
open Go.RowKit

theorem stepO_resp (s : St) (o : Opn) : I64 (stepO s o).2 := by
  by_cases h : s.kind ≠ 4 ∨ s.shut = true ∨ o.code = 10 ∨ o.code = 5 ∨ o.code = 6 ∨ o.code = 7 ∨ (0 ≤ o.a ∧ o.a ≤ 255)
  · rw [stepO_eq s o h]
    exact step_resp s o
  · by_cases hm : MayS s
    · have hk : s.kind = 4 := by
        by_cases hk : s.kind = 4
        · exact hk
        · exact absurd (.inl hk) h
      have hs : s.shut = false := by
        cases hs : s.shut
        · rfl
        · exact absurd (.inr (.inl hs)) h
      have hc : o.code ≠ 10 := fun e => h (.inr (.inr (.inl e)))
      have ha : ¬ (0 ≤ o.a ∧ o.a ≤ 255) := fun e => h (.inr (.inr (.inr (.inr (.inr (.inr e))))))
      rw [stepO_open hm hs o hc, if_neg (by omega), if_neg (by omega), if_pos hk]
      unfold storeO
      rw [if_pos (by omega)]
      exact (i64_small (by decide) (by decide) : I64 (-1))
    · rw [stepO_not hm]
      exact (i64_small (by decide) (by decide) : I64 0)

theorem foldO_not {s : St} (h : ¬ MayS s) : ∀ l : List Opn, foldO s l = (s, List.replicate l.length 0)
  | [] => rfl
  | o :: r => by
    rw [foldO, stepO_not h]
    simp only
    rw [foldO_not h r]
    rfl

theorem foldO_take (s : St) (ops : List Opn) (k : Nat) (hk : k < ops.length) {sk : St} {outs : List Int} (h : foldO s (ops.take k) = (sk, outs)) :
    foldO s (ops.take (k + 1)) = ((stepO sk (ops.getD k ⟨0, 0, 0⟩)).1, outs ++ [(stepO sk (ops.getD k ⟨0, 0, 0⟩)).2]) := by
  have e : ops.take (k + 1) = ops.take k ++ [ops.getD k ⟨0, 0, 0⟩] := by
    rw [List.take_add_one]
    simp [List.getD, hk]
  rw [e, foldO_snoc, h]

/-- Numbers in a row of their own length. -/
theorem RdI.ofCells {w : World} {Y : Nat} {L : List Int} {n : Nat} (hn : n = L.length) (h : w.heap[Y]? = some (.cells (intCells L).toArray 3 (0, 0))) (hl : L.length ≤ 1000000) (hi : ∀ x ∈ L, I64 x) : RdI w (.slice (some ⟨Y, 0, none⟩) n n) L := by
  subst hn
  refine ⟨some ⟨Y, 0, none⟩, L.length, rfl, Nat.le_refl _, by unfold maxLen; omega, (fun e => by cases e), hi, .inr ⟨Y, 0, rfl, fun j hj => ?_⟩⟩
  rw [Nat.zero_add, cell_of_row w Y j _ _ _ h, List.getElem?_toArray]
  exact intCells_get L j hj

theorem set_rep (outs : List Int) (n k : Nat) (x : Int) (ho : outs.length = k) (hk : k < n) : (outs ++ List.replicate (n - k) 0).set k x = (outs ++ [x]) ++ List.replicate (n - (k + 1)) 0 := by
  obtain ⟨m, hm⟩ : ∃ m, n - k = m + 1 := ⟨n - k - 1, by omega⟩
  have e : n - (k + 1) = m := by omega
  rw [hm, e, List.replicate_succ, List.set_append_right _ _ (by omega), ho, Nat.sub_self]
  simp

/-- Where a fold stands: the answer's box behind w, the state's box at X, the answers' row at Y. -/
structure FoldIn (w : World) (X Y : Nat) (s0 : St) (ops : List Opn) (k : Nat) (wr : World) (vk : Value) (sk : St) (outs : List Int) : Prop where
  fold : foldO s0 (ops.take k) = (sk, outs)
  may : MayS sk
  len : outs.length = k
  resp : ∀ n ∈ outs, I64 n
  res : Bx wr (w.heap.size + 1) #[.int .i64 0, .slice none 0 0, .bool false, .int .i64 0]
  box : Bx wr X #[.int .i64 sk.kind, vk, .bool sk.shut, .int .i64 sk.eng]
  own : OwnI wr (w.heap.size + 1 + 1) vk sk.L
  row : wr.heap[Y]? = some (.cells (intCells (outs ++ List.replicate (ops.length - k) 0)).toArray 3 (0, 0))
  apart : ∀ b, vk.ownBlock = some b → b ≠ X ∧ b ≠ Y
  oldX : w.heap.size + 1 + 1 ≤ X
  oldY : w.heap.size + 1 + 1 ≤ Y
  ne : X ≠ Y
  below : Below w.heap.size w wr

/-- One step on. -/
theorem FoldIn.next {w wr W2 : World} {X Y : Nat} {s0 : St} {ops : List Opn} {k : Nat} {vk v2 : Value} {sk : St} {outs : List Int} (h : FoldIn w X Y s0 ops k wr vk sk outs) (hk : k < ops.length) (Z : Obj)
    {k' g' : Int} {L' : List Int} {s' : Bool} {n' : Int} (hst : stepO sk (ops.getD k ⟨0, 0, 0⟩) = (⟨k', L', s', g'⟩, n')) (ho : OwnI W2 (w.heap.size + 1 + 1) v2 L') (hm : Mv (wr.alloc Z) W2 vk v2) :
    FoldIn w X Y s0 ops (k + 1) (((((W2.setCell ⟨X, 0, none⟩ (.int .i64 k')).setCell ⟨X, 1, none⟩ v2).setCell ⟨X, 2, none⟩ (.bool s')).setCell ⟨X, 3, none⟩ (.int .i64 g')).setCell ⟨Y, k, none⟩ (.int .i64 n')) v2 ⟨k', L', s', g'⟩ (outs ++ [n']) := by
  have lX := h.box.lt
  have lY : Y < wr.heap.size := (Array.getElem?_eq_some_iff.1 h.row).1
  have lR := h.res.lt
  have hsz : (wr.alloc Z).heap.size = wr.heap.size + 1 := by simp
  have keep : ∀ b, b < wr.heap.size → some b ≠ vk.ownBlock → W2.heap[b]? = wr.heap[b]? := fun b hb hne => by
    rw [hm.grown.block b (by omega) hne]
    exact Below.heap_alloc _ _ _ hb
  have hvk : ∀ b, vk.ownBlock = some b → w.heap.size + 1 + 1 ≤ b := h.own.fresh
  have hbut : But X Y W2 (((((W2.setCell ⟨X, 0, none⟩ (.int .i64 k')).setCell ⟨X, 1, none⟩ v2).setCell ⟨X, 2, none⟩ (.bool s')).setCell ⟨X, 3, none⟩ (.int .i64 g')).setCell ⟨Y, k, none⟩ (.int .i64 n')) := ((But.refl _ _ _).four _ (.inl rfl) _ _ _ _).set _ _ (.inr rfl) _
  have hap : ∀ b, v2.ownBlock = some b → b ≠ X ∧ b ≠ Y := fun b hb => by
    rcases hm.lies b hb with h' | h'
    · exact h.apart b h'
    · rw [hsz] at h'
      omega
  have hX2 : W2.heap[X]? = some (.cells #[.int .i64 sk.kind, vk, .bool sk.shut, .int .i64 sk.eng] 24 (0, 0)) := (keep X lX (fun e => (h.apart X e.symm).1 rfl)).trans h.box
  have hY2 := (keep Y lY (fun e => (h.apart Y e.symm).2 rfl)).trans h.row
  have hs2 : wr.heap.size ≤ W2.heap.size := by have := hm.size; omega
  refine ⟨?_, ?_, by simp [h.len], ?_, ?_, ?_, ho.but hbut hap, ?_, hap, h.oldX, h.oldY, h.ne, ?_⟩
  · rw [foldO_take s0 ops k hk h.fold, hst]
  · have := stepO_may h.may (ops.getD k ⟨0, 0, 0⟩)
    rw [hst] at this
    exact this
  · intro n hn
    rcases List.mem_append.1 hn with hn | hn
    · exact h.resp n hn
    · rw [List.mem_singleton.1 hn]
      have := stepO_resp sk (ops.getD k ⟨0, 0, 0⟩)
      rw [hst] at this
      exact this
  · refine (hbut.block _ (by omega) (by have := h.oldX; omega) (by have := h.oldY; omega)).trans ((keep _ lR (fun e => ?_)).trans h.res)
    have := hvk _ e.symm
    omega
  · refine (Below.heap_setCell _ _ _ _ (by exact h.ne)).trans ?_
    exact heap_four W2 X _ _ _ _ _ hX2 _ _ _ _
  · have hY3 : ((((W2.setCell ⟨X, 0, none⟩ (.int .i64 k')).setCell ⟨X, 1, none⟩ v2).setCell ⟨X, 2, none⟩ (.bool s')).setCell ⟨X, 3, none⟩ (.int .i64 g')).heap[Y]? = some (.cells (intCells (outs ++ List.replicate (ops.length - k) 0)).toArray 3 (0, 0)) := by
      rw [Below.heap_setCell _ _ _ _ (by exact Ne.symm h.ne), Below.heap_setCell _ _ _ _ (by exact Ne.symm h.ne), Below.heap_setCell _ _ _ _ (by exact Ne.symm h.ne), Below.heap_setCell _ _ _ _ (by exact Ne.symm h.ne)]
      exact hY2
    rw [heap_setCell_same _ Y k _ _ _ hY3, ← set_rep outs ops.length k n' h.len hk]
    congr 2
    simp [intCells, List.map_set]
  · have hb := h.below
    have hbs := hb.size
    refine ⟨hbut.os.trans (hm.grown.os.trans hb.os), hbut.tape.trans (hm.grown.tape.trans hb.tape), hbut.output.trans (hm.grown.output.trans hb.output), by have := hbut.size; omega, fun j hj => ?_⟩
    rw [hbut.block j (by omega) (by have := h.oldX; omega) (by have := h.oldY; omega), keep j (by omega) (fun e => by have := hvk j e.symm; omega)]
    exact hb.block j hj

theorem made_ints (n : Nat) (hn : n ≤ 1000) (w : World) : (Instr.makeSlice 22 (.int .i64 (n : Int)) (.int .i64 (n : Int))).run Try.prog w = .ok (.slice (some ⟨w.heap.size, 0, none⟩) n n) (w.alloc (.cells (intCells (List.replicate n 0)).toArray 3)) := by
  obtain ⟨i0, hi, hz0, hz1, hz2⟩ := info_parts info_i64
  rw [run_make w 22 3 i0 (.int .i64 0) Try.underlying22 hi hz0 .i64 .i64 n n (by omega) (Int.le_refl _) (by rw [hz2]; omega) (by omega), hz1]
  have e : madeCells (Value.int .i64 0).cells ((n : Int).toNat * 1) = (intCells (List.replicate n 0)).toArray := by
    apply Array.ext
    · simp [madeCells, intCells]
    · intro i h1 h2
      simp [madeCells, intCells, Nat.mod_one, Value.cells]
  rw [e]
  simp

set_option maxRecDepth 100000 in
set_option maxHeartbeats 4000000 in
theorem fold_any (v : Value) (s : St) (vo : Value) (ops : List Opn) (w : World) (hs : StV w v s) (ho : RdO w vo ops) (hlim : ops.length ≤ 1000) (hlim2 : s.L.length ≤ 1000000) :
    Calls Try.prog 9 #[v, vo] w fun e w' => Folded w (foldO s ops) e w' := by
  obtain ⟨vl, rfl, hr, hki, hei⟩ := hs
  obtain ⟨kind, l, shut, g⟩ := s
  simp only at hr hki hei hlim2 ⊢
  have HI := hide' hr.i64
  have HRO := hide' ho
  obtain ⟨oa, ocap, rfl, -, -, -, -, hoa⟩ := ho
  have HOA := hide' hoa
  have HOWN : Hid (∀ W, Below w.heap.size w W → Calls Try.prog 20 #[.agg #[.int .i64 kind, vl, .bool shut, .int .i64 g]] W fun e w' => ∃ vl', e = .returned (.agg #[.int .i64 kind, vl', .bool shut, .int .i64 g]) ∧ OwnI w' W.heap.size vl' l ∧ Below W.heap.size W w') := fun W h => ownS_any _ ⟨kind, l, shut, g⟩ W ⟨vl, rfl, hr.below h (Nat.le_refl _), hki, hei⟩ hlim2
  have HMAY : Hid (∀ v1 W, RdI W v1 l → Calls Try.prog 21 #[.agg #[.int .i64 kind, v1, .bool shut, .int .i64 g]] W fun e w' => e = .returned (.bool (decide (MayS ⟨kind, l, shut, g⟩))) ∧ Below W.heap.size W w') := fun v1 W h => may_any _ ⟨kind, l, shut, g⟩ W ⟨v1, rfl, h, hki, hei⟩
  have HB2 : Hid (∀ x y, Below w.heap.size w ((w.alloc x).alloc y)) := fun x y => ((Below.refl _ _).alloc (Nat.le_refl _) x).alloc (by simp) y
  have HZ2 : Hid (∀ x y, ((w.alloc x).alloc y).heap.size = w.heap.size + 1 + 1) := fun x y => by simp
  have HKI := hide' hki
  have HEI := hide' hei
  clear hr hki hei hlim2 hoa
  have hmk := made_ints ops.length hlim
  generalize hMC : (intCells (List.replicate ops.length 0)).toArray = MC at hmk
  have HMC := hide' hMC
  clear hMC
  go_enter Try.func9, Try.ntmps9
  go_wp2_with fail
  refine (HOWN.out _ (HB2.out _ _)).mono ?_
  rintro e W1 ⟨v1, rfl, ho1, hb1⟩
  rw [HZ2.out] at ho1
  have HX1 := hide' ((Box2.made w _ _).below hb1 (by simp))
  have HB1 := hide' ((HB2.out _ _).trans (hb1.mono (HB2.out _ _).size))
  have HO1 := hide' ho1
  have hs1 := hb1.size
  rw [HZ2.out] at hs1
  obtain ⟨ao, cap, rfl⟩ := ho1.shape
  clear hb1 ho1
  go_wp2_with fail
  refine (HMAY.out _ _ (((HO1.out.alloc _).alloc _).rd HI.out)).mono ?_
  rintro e W2 ⟨rfl, hb2⟩
  have hz : ∀ x y, ((W1.alloc x).alloc y).heap.size = W1.heap.size + 1 + 1 := fun x y => by simp
  rw [hz] at hb2
  have HBW : Hid (∀ x y, Below W1.heap.size W1 ((W1.alloc x).alloc y)) := fun x y => ((Below.refl _ _).alloc (Nat.le_refl _) x).alloc (by simp) y
  have HBV := hide' ((HBW.out _ _).trans (hb2.mono (by omega)))
  have HB2' := hide' (HB1.out.trans (HBV.out.mono HB1.out.size))
  have HO2 := hide' (HO1.out.below HBV.out (Nat.le_refl _))
  have hs2 := hb2.size
  have HRES : Hid (Bx W2 (w.heap.size + 1) _) := (HBV.out.block _ (Array.getElem?_eq_some_iff.1 HX1.out.2).1).trans HX1.out.2
  have HBOX : Hid (Bx W2 W1.heap.size _) := (hb2.block W1.heap.size (by omega)).trans ((Below.heap_alloc _ _ _ (by simp)).trans (heap_alloc_new W1 _))
  have HROW : Hid (W2.heap[W1.heap.size + 1]? = some (.cells MC 3 (0, 0))) := (hb2.block (W1.heap.size + 1) (by omega)).trans (by
    have h := fun x => heap_alloc_new (W1.alloc x) (.cells MC 3)
    have e : ∀ x, (W1.alloc x).heap.size = W1.heap.size + 1 := fun x => by simp
    simp only [e] at h
    exact h _)
  have HAP : Hid (∀ b, (Value.slice ao l.length cap).ownBlock = some b → b ≠ W1.heap.size ∧ b ≠ W1.heap.size + 1) := fun b hb => by
    have := (World.ownsRow.lt HO1.out b hb).2
    omega
  clear hb2 hz HBW HX1
  by_cases hm : MayS ⟨kind, l, shut, g⟩
  · rw [decide_eq_true hm]
    have HM := hide' hm
    have HST : Hid (FoldIn w W1.heap.size (W1.heap.size + 1) ⟨kind, l, shut, g⟩ ops 0 W2 (.slice ao l.length cap) ⟨kind, l, shut, g⟩ []) := ⟨rfl, hm, rfl, (fun n hn => by simp at hn), HRES.out, HBOX.out, HO2.out, by rw [HROW.out, ← HMC.out]; simp, HAP.out, hs1, by omega, by omega, HB2'.out⟩
    have HACT : Hid (∀ sk v1 o B W, MayS sk → OwnI W B v1 sk.L → B ≤ W.heap.size → Calls Try.prog 22 #[.agg #[.int .i64 sk.kind, v1, .bool sk.shut, .int .i64 sk.eng], opV o] W fun e w' => Did B W v1 (stepO sk o) e w') := fun sk v1 o B W h0 h1 h2 => act_any sk v1 o B W h1 h2 h0
    have hoI : (ops.length : Int) ≤ 1000 := by omega
    clear hm HMAY HOWN HO2 HBOX HROW HRES HAP HB2'
    go_wp2
    go_loopw [22] (fun i wr => ∃ (k : Nat) (vk : Value) (sk : St) (outs : List Int), i = .int .i64 (k : Int) ∧ k ≤ ops.length ∧ Hid (FoldIn w W1.heap.size (W1.heap.size + 1) ⟨kind, l, shut, g⟩ ops k wr vk sk outs)) (fun i _ => ops.length - (intOf i).toNat)
    case atStart => exact ⟨0, _, _, _, rfl, Nat.zero_le _, HST⟩
    case round =>
      obtain ⟨k, vk, ⟨kk, Lk, shk, gk⟩, outs, rfl, hkl, hat⟩ := hrel
      have HOK := hide' hat.out.own
      obtain ⟨ak, ck, rfl⟩ := hat.out.own.shape
      by_cases hlt : k < ops.length
      · rcases HOA.out with hoa | ⟨b0, off, rfl, hcs⟩
        · subst hoa; simp at hlt
        obtain ⟨c0, c1, c2⟩ := hcs k hlt
        have hb0 : b0 < w.heap.size := World.block_lt_of_cell? w ⟨b0, off + k * 3, none⟩ c0
        have o0 := (hat.out.below.cell (p := ⟨b0, off + k * 3, none⟩) hb0).trans c0
        have o1 := (hat.out.below.cell (p := ⟨b0, off + k * 3 + 1, none⟩) hb0).trans c1
        have o2 := (hat.out.below.cell (p := ⟨b0, off + k * 3 + 2, none⟩) hb0).trans c2
        have q0 := (hat.out.box.cell 0).1
        have q1 := (hat.out.box.cell 1).1
        have q2 := (hat.out.box.cell 2).1
        have q3 := (hat.out.box.cell 3).1
        have lX := hat.out.box.lt
        have lW : w.heap.size ≤ wr.heap.size := hat.out.below.size
        have nb : b0 ≠ wr.heap.size := by omega
        clear hcs c0 c1 c2
        obtain ⟨⟨oc, oA, oB⟩, hoe⟩ : ∃ o, o = ops.getD k ⟨0, 0, 0⟩ := ⟨_, rfl⟩
        rw [← hoe] at o0 o1 o2
        obtain ⟨⟨⟨k', L', s', g'⟩, n'⟩, hrr⟩ : ∃ r, r = stepO ⟨kk, Lk, shk, gk⟩ ⟨oc, oA, oB⟩ := ⟨_, rfl⟩
        have hst : stepO ⟨kk, Lk, shk, gk⟩ (ops.getD k ⟨0, 0, 0⟩) = (⟨k', L', s', g'⟩, n') := by rw [← hoe]; exact hrr.symm
        have HNX := hide' (fun (W2 : World) (v2 : Value) (Z : Obj) ho hmv => hat.out.next (W2 := W2) (v2 := v2) hlt Z hst ho hmv)
        have HCL : Hid (∀ Z, Calls Try.prog 22 #[.agg #[.int .i64 kk, .slice ak Lk.length ck, .bool shk, .int .i64 gk], .agg #[.int .i64 oc, .int .i64 oA, .int .i64 oB]] (wr.alloc Z) fun e w' => Did (w.heap.size + 1 + 1) (wr.alloc Z) (.slice ak Lk.length ck) (⟨k', L', s', g'⟩, n') e w') := fun Z => by
          rw [hrr]
          exact HACT.out ⟨kk, Lk, shk, gk⟩ _ ⟨oc, oA, oB⟩ _ _ hat.out.may (HOK.out.alloc Z) (by have := hat.out.oldX; simp; omega)
        have HKP : Hid (∀ Z W v2, Mv (wr.alloc Z) W (.slice ak Lk.length ck) v2 → (Bx W W1.heap.size #[.int .i64 kk, .slice ak Lk.length ck, .bool shk, .int .i64 gk]) ∧ W.heap[W1.heap.size + 1]? = some (.cells (intCells (outs ++ List.replicate (ops.length - k) 0)).toArray 3 (0, 0))) := fun Z W v2 hmv => by
          have lY : W1.heap.size + 1 < wr.heap.size := (Array.getElem?_eq_some_iff.1 hat.out.row).1
          have hsz : (wr.alloc Z).heap.size = wr.heap.size + 1 := by simp
          refine ⟨(hmv.grown.block _ (by omega) (fun e => (hat.out.apart _ e.symm).1 rfl)).trans ((Below.heap_alloc _ _ _ lX).trans hat.out.box), (hmv.grown.block _ (by omega) (fun e => (hat.out.apart _ e.symm).2 rfl)).trans ((Below.heap_alloc _ _ _ lY).trans hat.out.row)⟩
        have hlen := hat.out.len
        have HLN := hide' hlen
        clear hrr hoe hlen hst
        go_wp2_with fail
        refine (HCL.out _).mono ?_
        rintro e W3 ⟨v3, rfl, ho3, hm3⟩
        obtain ⟨hX, hY⟩ := HKP.out _ _ _ hm3
        obtain ⟨a3, c3, rfl⟩ := ho3.shape
        have HNXT := hide' (HNX.out _ _ _ ho3 hm3)
        obtain ⟨x0, y0⟩ := hX.cell 0
        obtain ⟨x1, y1⟩ := hX.cell 1
        obtain ⟨x2, y2⟩ := hX.cell 2
        obtain ⟨x3, y3⟩ := hX.cell 3
        have hyk : ∃ z, W3.cell? ⟨W1.heap.size + 1, k, none⟩ = some z := by
          rw [cell_of_row W3 (W1.heap.size + 1) k _ _ _ hY]
          have hk : k < (intCells (outs ++ List.replicate (ops.length - k) 0)).toArray.size := by
            have := HLN.out
            simp [intCells]
            omega
          exact ⟨_, Array.getElem?_eq_getElem hk⟩
        obtain ⟨zk, hzk⟩ := hyk
        have hfk := frozen_of_row W3 (W1.heap.size + 1) k _ _ hY
        have hkI : (k : Int) < (ops.length : Int) := by omega
        clear ho3 hm3 hX hY HCL HKP HNX HLN
        go_wp2
        go_roundw
        case rel => exact ⟨k + 1, _, _, _, by go_num, by omega, HNXT⟩
        case measure => simp [intOf]; omega
      · have hke : k = ops.length := by omega
        have q0 := (hat.out.box.cell 0).1
        have q1 := (hat.out.box.cell 1).1
        have q2 := (hat.out.box.cell 2).1
        have q3 := (hat.out.box.cell 3).1
        obtain ⟨r0, t0⟩ := hat.out.res.cell 0
        obtain ⟨r1, t1⟩ := hat.out.res.cell 1
        obtain ⟨r2, t2⟩ := hat.out.res.cell 2
        obtain ⟨r3, t3⟩ := hat.out.res.cell 3
        have HFE : Hid (foldO ⟨kind, l, shut, g⟩ ops = (⟨kk, Lk, shk, gk⟩, outs)) := by
          have h := hat.out.fold
          rw [hke, List.take_length] at h
          exact h
        rw [hke] at hat
        have HMK := hide' hat.out.may
        clear hke
        go_wp2
        refine bodyPost_ret (v := .tuple #[.agg #[.int .i64 kk, .slice ak Lk.length ck, .bool shk, .int .i64 gk], .slice (some ⟨W1.heap.size + 1, 0, none⟩) ops.length ops.length]) (by simp [results, Try.results9, go_sem, r0, r1, r2, r3]) rfl ?_
        rw [HFE.out]
        have hlen := hat.out.len
        have hmm := HMK.out
        have m1 : 0 ≤ kk := hmm.2.2.2.1
        have m2 : kk < 6 := hmm.2.2.2.2.1
        have m3 : 0 ≤ gk := hmm.1
        have m4 : gk ≤ 2 := hmm.2.1
        refine ⟨_, _, rfl, (hat.out.own.four (w.heap.size + 1) (by omega) _ _ _ _).rd (may_i64 hmm), (i64_small (by omega) (by omega) : I64 kk), (i64_small (by omega) (by omega) : I64 gk), RdI.ofCells hlen.symm ?_ (by show outs.length ≤ 1000000; omega) hat.out.resp, belowFour hat.out.below (w.heap.size + 1) (by omega) _ _ _ _⟩
        have hrow := hat.out.row
        rw [Nat.sub_self, List.replicate_zero, List.append_nil] at hrow
        have hne : W1.heap.size + 1 ≠ w.heap.size + 1 := by omega
        refine Eq.trans ?_ hrow
        rw [Below.heap_setCell _ _ _ _ hne, Below.heap_setCell _ _ _ _ hne, Below.heap_setCell _ _ _ _ hne, Below.heap_setCell _ _ _ _ hne]
  · rw [decide_eq_false hm]
    have HFE := hide' (foldO_not hm ops)
    have q0 := (HBOX.out.cell 0).1
    have q1 := (HBOX.out.cell 1).1
    have q2 := (HBOX.out.cell 2).1
    have q3 := (HBOX.out.cell 3).1
    obtain ⟨r0, t0⟩ := HRES.out.cell 0
    obtain ⟨r1, t1⟩ := HRES.out.cell 1
    obtain ⟨r2, t2⟩ := HRES.out.cell 2
    obtain ⟨r3, t3⟩ := HRES.out.cell 3
    clear hm
    go_wp2
    refine bodyPost_ret (v := .tuple #[.agg #[.int .i64 kind, .slice ao l.length cap, .bool shut, .int .i64 g], .slice (some ⟨W1.heap.size + 1, 0, none⟩) ops.length ops.length]) (by simp [results, Try.results9, go_sem, r0, r1, r2, r3]) rfl ?_
    rw [HFE.out]
    have hne : W1.heap.size + 1 ≠ w.heap.size + 1 := by omega
    refine ⟨_, _, rfl, (HO2.out.four (w.heap.size + 1) (by omega) _ _ _ _).rd HI.out, HKI.out, HEI.out, RdI.ofCells (by simp) ?_ (by simp; omega) (fun x hx => ?_), belowFour HB2'.out (w.heap.size + 1) (by omega) _ _ _ _⟩
    · rw [Below.heap_setCell _ _ _ _ hne, Below.heap_setCell _ _ _ _ hne, Below.heap_setCell _ _ _ _ hne, Below.heap_setCell _ _ _ _ hne, HROW.out, HMC.out]
    · rw [List.eq_of_mem_replicate hx]
      exact i64_small (by decide) (by decide)

end Go.Proofs.Ytanmjihiceibbab
