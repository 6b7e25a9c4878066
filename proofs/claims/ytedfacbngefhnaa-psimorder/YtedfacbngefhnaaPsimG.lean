/- The engine that copies: a copy takes effect. -/
import Derived.Test.YtedfacbngefhnaaPsimF
namespace Go.Proofs.Ytedfacbngefhnaa
open Go.RowKit Go.Maps

theorem numb_app : ∀ (a b : List Rec) (k : Nat), numb k (a ++ b) = numb k a ++ numb (k + a.length) b
  | [], b, k => rfl
  | r :: t, b, k => by
    rw [List.cons_append, numb, numb_app t b (k + 1), numb, List.cons_append, List.length_cons]
    have e : k + 1 + t.length = k + (t.length + 1) := by omega
    rw [e]

theorem numb_take (T : List Rec) (k j : Nat) (hj : j < T.length) : numb k (T.take (j + 1)) = numb k (T.take j) ++ [⟨((k + j : Nat) : Int), (T.getD j zeroR).proc, (T.getD j zeroR).seq, (T.getD j zeroR).op, (T.getD j zeroR).resp⟩] := by
  have e1 : T.take (j + 1) = T.take j ++ [T.getD j zeroR] := by
    rw [List.take_add_one]
    congr 1
    simp [List.getD, hj]
  rw [e1, numb_app]
  congr 1
  have e2 : (T.take j).length = j := by simp; omega
  rw [e2]
  rfl

/-- What is so at each round. -/
structure EffL (w wr : World) (l n m : Nat) (sv av fv ov lv0 : Value) (s : St) (log : List Rec) (lv : Value) : Prop where
  list : Bk 76 wr l (lsC n m sv av fv ov lv s)
  log : OwnR wr 0 lv log
  only : Only (fun k => k = l ∨ lv0.ownBlock = some k) w wr
  own : ∀ j, lv.ownBlock = some j → lv0.ownBlock = some j ∨ w.heap.size ≤ j

set_option maxRecDepth 100000 in
/-- One record more. -/
theorem EffL.one {w wr W' : World} {l n m : Nat} {sv av fv ov lv0 lv v' : Value} {s : St} {log : List Rec} {r : Rec} {cs : Array Value} (h : EffL w wr l n m sv av fv ov lv0 s log lv) {W0 : World} (h0 : Below wr.heap.size wr W0)
    (ho : W'.ownsRow 0 53 7 v' (log.length + 1) (recCells log ++ (recC r).toList)) (hg : (W0.alloc (.cells cs 53)).grownBy W' lv.ownBlock) (hv : v'.ownBlock = lv.ownBlock ∨ v'.ownBlock = some (W0.heap.size + 1)) :
    EffL w (W'.setCell ⟨l, 11, none⟩ v') l n m sv av fv ov lv0 s (log ++ [r]) v' ∧ Bk 76 W' l (lsC n m sv av fv ov lv s) := by
  have o1 : Only (fun j => lv.ownBlock = some j) W0 W' := grown_only hg
  have hsz := h.only.size
  have hsz0 := h0.size
  have l0 : Bk 76 W0 l (lsC n m sv av fv ov lv s) := h.list.keep (h0.block _ h.list.lt)
  have lvl : ∀ j, lv.ownBlock = some j → j ≠ l ∧ j < wr.heap.size := fun j hj => by
    obtain ⟨c, hb⟩ := row_bk h.log hj
    exact ⟨hb.ne h.list (by decide), hb.lt⟩
  have l1 : Bk 76 W' l (lsC n m sv av fv ov lv s) := l0.only o1 fun e1 => (lvl _ e1).1 rfl
  have vl : ∀ j, v'.ownBlock = some j → j ≠ l := fun j hj => by
    obtain ⟨c, hb⟩ := row_bk ho hj
    exact hb.ne l1 (by decide)
  refine ⟨⟨l1.set 11 v', ?_, ?_, fun j hj => ?_⟩, l1⟩
  · refine ownsRow_keep (w := W') ?_ fun k hk => Below.heap_setCell _ _ _ _ (vl k hk)
    rw [List.length_append, recCells_app]
    have e1 : recCells [r] = (recC r).toList := by simp [recCells]
    rw [e1]
    exact ho
  · refine Only.setCell ?_ 11 (fun _ => .inl rfl) v'
    refine ((h.only.trans (Only.ofBelow (F := fun k => k = l ∨ lv0.ownBlock = some k) h0) fun _ _ a => a).trans o1 fun k hk a => ?_)
    rcases h.own k a with b | b
    · exact .inr b
    · omega
  · rcases hv with hv | hv
    · exact h.own j (by rw [← hv]; exact hj)
    · rw [hv] at hj
      have := Option.some.inj hj
      exact .inr (by omega)

set_option maxRecDepth 100000 in
set_option maxHeartbeats 4000000 in
theorem effect_raw {w : World} {l n m U TL lc fc ac sc an sn : Nat} {la fa aa sa : Option Addr} {sv av fv ov : Value} {s s' : St} {T log : List Rec} (hl : Bk 76 w l (lsC n m sv av fv ov (.slice la U lc) s)) (hg : OwnR w 0 (.slice la U lc) log) (hU : U = log.length)
    (hT : OwnR w 0 (.slice fa TL fc) T) (hTL : TL = T.length) (hsep : ∀ g, (Value.slice fa TL fc).ownBlock = some g → (Value.slice la U lc).ownBlock ≠ some g) (hlen : U + TL ≤ 10000000) :
    Calls Try.prog 58 #[ptr l, .agg #[.int .i64 s'.kind, .slice sa sn sc, .bool s'.shut, .int .i64 s'.eng, .slice aa an ac, .slice fa TL fc]] w fun r w' => r = .returned (.tuple #[]) ∧ ∃ lv', Bk 76 w' l (lsC n m (.slice sa sn sc) (.slice aa an ac) (.slice fa TL fc) ov lv' s') ∧ OwnR w' 0 lv' (log ++ numb log.length T) ∧
      Only (fun k => k = l ∨ (Value.slice la U lc).ownBlock = some k) w w' ∧ (∀ j, lv'.ownBlock = some j → (Value.slice la U lc).ownBlock = some j ∨ w.heap.size ≤ j) := by
  have hbx : Below w.heap.size w (w.alloc (.cells #[.int .i64 s'.kind, .slice sa sn sc, .bool s'.shut, .int .i64 s'.eng, .slice aa an ac, .slice fa TL fc] 69)) := (Below.refl _ _).alloc (Nat.le_refl _) _
  obtain ⟨W1, hW1⟩ : ∃ W1, W1 = w.alloc (.cells #[.int .i64 s'.kind, .slice sa sn sc, .bool s'.shut, .int .i64 s'.eng, .slice aa an ac, .slice fa TL fc] 69) := ⟨_, rfl⟩
  have hxb : Bk 69 W1 w.heap.size #[.int .i64 s'.kind, .slice sa sn sc, .bool s'.shut, .int .i64 s'.eng, .slice aa an ac, .slice fa TL fc] := by rw [hW1]; exact heap_alloc_new _ _
  rw [← hW1] at hbx
  have hg1 : OwnR W1 0 (.slice la U lc) log := ownsRow_keep hg fun g h => hbx.block g (row_bk hg h).choose_spec.lt
  have hT1 : OwnR W1 0 (.slice fa TL fc) T := ownsRow_keep hT fun g h => hbx.block g (row_bk hT h).choose_spec.lt
  have hl1 := hl.keep (hbx.block _ hl.lt)
  have hll : l < W1.heap.size := hl1.lt
  have hfb : ∀ g, (Value.slice fa TL fc).ownBlock = some g → g < W1.heap.size ∧ g ≠ l := fun g h => by
    obtain ⟨c, hb⟩ := row_bk hT1 h
    exact ⟨hb.lt, hb.ne hl1 (by decide)⟩
  have hxl : w.heap.size ≠ l ∧ (Value.slice la U lc).ownBlock ≠ some w.heap.size := by
    refine ⟨hxb.ne hl1 (by decide), fun e1 => ?_⟩
    obtain ⟨c, hb⟩ := row_bk hg e1
    have := hb.lt
    omega
  have HL0 : Hid (EffL W1 W1 l n m sv av fv ov (.slice la U lc) s log (.slice la U lc)) := hide ⟨hl1, hg1, Only.refl _ _, fun j hj => .inl hj⟩
  have HXB : Hid (∀ wr lg lv, EffL W1 wr l n m sv av fv ov (.slice la U lc) s lg lv → Bk 69 wr w.heap.size #[.int .i64 s'.kind, .slice sa sn sc, .bool s'.shut, .int .i64 s'.eng, .slice aa an ac, .slice fa TL fc]) := hide fun wr lg lv h =>
    hxb.only h.only fun a => a.elim hxl.1 hxl.2
  have HT : Hid (∀ wr lg lv, EffL W1 wr l n m sv av fv ov (.slice la U lc) s lg lv → ∀ j, j < TL → ∃ b, fa = some ⟨b, 0, none⟩ ∧ RecAt wr b (j * 7) (T.getD j zeroR)) := hide fun wr lg lv h j hj => by
    have hr : OwnR wr 0 (.slice fa TL fc) T := ownsRow_keep hT1 fun g hg => h.only.block g (hfb g hg).1 fun a => a.elim (hfb g hg).2 (hsep g hg)
    obtain ⟨b, c, hv, hc⟩ := row_at hr (by omega)
    simp only [Value.slice.injEq] at hv
    refine ⟨b, hv.1, ?_⟩
    have cel : ∀ k, k < 7 → wr.cell? ⟨b, j * 7 + k, none⟩ = (recC (T.getD j zeroR))[k]? := fun k hk => by
      have e1 := recCells_get T j k (by omega) hk
      have e2 : ∃ u, (recC (T.getD j zeroR))[k]? = some u := ⟨_, Array.getElem?_eq_getElem (by show k < 7; exact hk)⟩
      obtain ⟨u, hu⟩ := e2
      rw [hu]
      exact hc _ _ (e1.trans hu)
    exact ⟨cel 0 (by omega), cel 1 (by omega), cel 2 (by omega), cel 3 (by omega), cel 4 (by omega), cel 5 (by omega), cel 6 (by omega)⟩
  have HEND : Hid (∀ wr lv, EffL W1 wr l n m sv av fv ov (.slice la U lc) s (log ++ numb log.length T) lv → ∃ lv', Bk 76 ((((((wr.setCell ⟨l, 4, none⟩ (.int .i64 s'.kind)).setCell ⟨l, 5, none⟩ (.slice sa sn sc)).setCell ⟨l, 6, none⟩ (.bool s'.shut)).setCell ⟨l, 7, none⟩ (.int .i64 s'.eng)).setCell ⟨l, 8, none⟩ (.slice aa an ac)).setCell ⟨l, 9, none⟩ (.slice fa TL fc)) l (lsC n m (.slice sa sn sc) (.slice aa an ac) (.slice fa TL fc) ov lv' s') ∧ OwnR ((((((wr.setCell ⟨l, 4, none⟩ (.int .i64 s'.kind)).setCell ⟨l, 5, none⟩ (.slice sa sn sc)).setCell ⟨l, 6, none⟩ (.bool s'.shut)).setCell ⟨l, 7, none⟩ (.int .i64 s'.eng)).setCell ⟨l, 8, none⟩ (.slice aa an ac)).setCell ⟨l, 9, none⟩ (.slice fa TL fc)) 0 lv' (log ++ numb log.length T) ∧
      Only (fun k => k = l ∨ (Value.slice la U lc).ownBlock = some k) w ((((((wr.setCell ⟨l, 4, none⟩ (.int .i64 s'.kind)).setCell ⟨l, 5, none⟩ (.slice sa sn sc)).setCell ⟨l, 6, none⟩ (.bool s'.shut)).setCell ⟨l, 7, none⟩ (.int .i64 s'.eng)).setCell ⟨l, 8, none⟩ (.slice aa an ac)).setCell ⟨l, 9, none⟩ (.slice fa TL fc)) ∧ (∀ j, lv'.ownBlock = some j → (Value.slice la U lc).ownBlock = some j ∨ w.heap.size ≤ j)) := hide fun wr lv h => by
    have o6 := only_six wr l 4 5 6 7 8 9 (.int .i64 s'.kind) (.slice sa sn sc) (.bool s'.shut) (.int .i64 s'.eng) (.slice aa an ac) (.slice fa TL fc)
    refine ⟨lv, (((((h.list.set 4 (.int .i64 s'.kind)).set 5 (.slice sa sn sc)).set 6 (.bool s'.shut)).set 7 (.int .i64 s'.eng)).set 8 (.slice aa an ac)).set 9 (.slice fa TL fc), ownsRow_keep h.log fun g hg => o6.block g (row_bk h.log hg).choose_spec.lt ?_, ?_, fun j hj => (h.own j hj).imp id fun a => by have := hbx.size; omega⟩
    · obtain ⟨c, hb⟩ := row_bk h.log hg
      exact hb.ne h.list (by decide)
    · exact ((Only.ofBelow (F := fun k => k = l ∨ (Value.slice la U lc).ownBlock = some k) hbx).trans h.only fun _ _ a => a).trans o6 fun _ _ a => .inl a
  have HLEN : Hid (U + TL ≤ 10000000 ∧ TL = T.length ∧ U = log.length) := hide ⟨hlen, hTL, hU⟩
  have HW1 := hide hW1
  obtain ⟨x5, -⟩ := hxb.cell 5 rfl
  clear hl hg hU hT hTL hsep hlen hbx hW1 hxb hg1 hT1 hl1 hll hfb hxl
  go_enter Try.func58, Try.ntmps58
  go_upto_region 1 with fail
  rw [← HW1.out]
  go_wp2
  go_loopw [9] (fun vi wr => ∃ (k : Nat) (lv : Value), vi = .int .i64 (k : Int) ∧ k ≤ TL ∧ Hid (EffL W1 wr l n m sv av fv ov (.slice la U lc) s (log ++ numb log.length (T.take k)) lv)) (fun vi _ => TL - (intOf vi).toNat)
  case atStart => exact ⟨0, _, rfl, Nat.zero_le _, hide (by simpa [numb] using HL0.out)⟩
  case round =>
    obtain ⟨k, lv, rfl, hk, HEK⟩ := hrel
    by_cases hlt : k < TL
    case neg =>
      obtain rfl : k = TL := by omega
      have HX := hide (HXB.out _ _ _ HEK.out)
      obtain ⟨y0, -⟩ := HX.out.cell 0 rfl
      obtain ⟨y1, -⟩ := HX.out.cell 1 rfl
      obtain ⟨y2, -⟩ := HX.out.cell 2 rfl
      obtain ⟨y3, -⟩ := HX.out.cell 3 rfl
      obtain ⟨y4, -⟩ := HX.out.cell 4 rfl
      obtain ⟨y5, -⟩ := HX.out.cell 5 rfl
      obtain ⟨z4, f4⟩ := HEK.out.list.cell 4 rfl
      obtain ⟨z5, f5⟩ := HEK.out.list.cell 5 rfl
      obtain ⟨z6, f6⟩ := HEK.out.list.cell 6 rfl
      obtain ⟨z7, f7⟩ := HEK.out.list.cell 7 rfl
      obtain ⟨z8, f8⟩ := HEK.out.list.cell 8 rfl
      obtain ⟨z9, f9⟩ := HEK.out.list.cell 9 rfl
      have HF := hide (HEND.out wr lv (by have h := HEK.out; rw [HLEN.out.2.1, List.take_length] at h; exact h))
      clear HL0 HXB HT HEND
      go_wp2
      go_end0
      exact ⟨rfl, HF.out⟩
    obtain ⟨b, hfa, hrec⟩ := HT.out _ _ _ HEK.out k hlt
    subst hfa
    have hki : (k : Int) < (TL : Int) := by omega
    have hkb : TL ≤ 10000000 := by have := HLEN.out; omega
    obtain ⟨r, hr⟩ : ∃ r, r = T.getD k zeroR := ⟨_, rfl⟩
    rw [← hr] at hrec
    obtain ⟨ri, rp, rq, ⟨rc, ra, rb⟩, rr⟩ := r
    obtain ⟨d0, d1, d2, d3, d4, d5, d6⟩ := hrec
    dsimp only at d0 d1 d2 d3 d4 d5 d6
    obtain ⟨ga, gc, hlv⟩ := row_form HEK.out.log
    have hlen2 : (log ++ numb log.length (T.take k)).length = U + k := by
      have := HLEN.out
      rw [List.length_append, numb_length, List.length_take]
      omega
    rw [hlen2] at hlv
    rw [hlv] at HEK
    obtain ⟨W0, hW0⟩ : ∃ W0, W0 = wr.alloc (.cells #[.int .i64 ((U : Int) + (k : Int)), .int .i64 rp, .int .i64 rq, .int .i64 rc, .int .i64 ra, .int .i64 rb, .int .i64 rr] 53) := ⟨_, rfl⟩
    have hb0 : Below wr.heap.size wr W0 := by rw [hW0]; exact (Below.refl _ _).alloc (Nat.le_refl _) _
    have hx0 : Bk 53 W0 wr.heap.size #[.int .i64 ((U : Int) + (k : Int)), .int .i64 rp, .int .i64 rq, .int .i64 rc, .int .i64 ra, .int .i64 rb, .int .i64 rr] := by rw [hW0]; exact heap_alloc_new _ _
    have hlg0 : W0.drew.ownsRow 0 53 7 (.slice ga (U + k) gc) (U + k) (recCells (log ++ numb log.length (T.take k))) := by
      have h := HEK.out.log
      unfold OwnR at h
      rw [hlen2] at h
      exact ownsRow_keep h fun g hg => hb0.block g (row_bk h hg).choose_spec.lt
    have HLG0 := hide hlg0
    have HFN : Hid (∀ v' W', W'.ownsRow 0 53 7 v' (U + k + 1) (recCells (log ++ numb log.length (T.take k)) ++ (#[.int .i64 ((U : Int) + (k : Int)), .int .i64 rp, .int .i64 rq, .int .i64 rc, .int .i64 ra, .int .i64 rb, .int .i64 rr] : Array Value).toList) → (W0.drew.alloc (.cells #[.int .i64 ((U : Int) + (k : Int)), .int .i64 rp, .int .i64 rq, .int .i64 rc, .int .i64 ra, .int .i64 rb, .int .i64 rr] 53)).grownBy W' (Value.slice ga (U + k) gc).ownBlock → (v'.ownBlock = (Value.slice ga (U + k) gc).ownBlock ∨ v'.ownBlock = some (W0.drew.heap.size + 1)) →
        EffL W1 (W'.setCell ⟨l, 11, none⟩ v') l n m sv av fv ov (.slice la U lc) s (log ++ numb log.length (T.take (k + 1))) v' ∧ W'.cell? ⟨l, 11, none⟩ = some (.slice ga (U + k) gc) ∧ W'.frozen? ⟨l, 11, none⟩ = false) := hide fun v' W' a1 a2 a3 => by
      obtain ⟨e1, e2⟩ := EffL.one (r := ⟨(U : Int) + (k : Int), rp, rq, ⟨rc, ra, rb⟩, rr⟩) (W0 := W0.drew) HEK.out (hb0.trans ((Below.refl _ W0).drew.mono hb0.size)) (by rw [hlen2]; exact a1) a2 a3
      rw [List.append_assoc] at e1
      have e3 : numb log.length (T.take (k + 1)) = numb log.length (T.take k) ++ [⟨(U : Int) + (k : Int), rp, rq, ⟨rc, ra, rb⟩, rr⟩] := by
        rw [numb_take T log.length k (by have := HLEN.out.2.1; omega), ← hr, ← HLEN.out.2.2]
        simp
      rw [← e3] at e1
      exact ⟨e1, e2.cell 11 rfl⟩
    have HOC : Hid (∀ u ∈ (#[.int .i64 ((U : Int) + (k : Int)), .int .i64 rp, .int .i64 rq, .int .i64 rc, .int .i64 ra, .int .i64 rb, .int .i64 rr] : Array Value).toList, u.oneCell' = true) := hide (by
      intro u hu
      simp at hu
      rcases hu with rfl | rfl | rfl | rfl | rfl | rfl | rfl <;> rfl)
    have HUL : Hid (U + k ≤ 10000000) := hide (by have := HLEN.out; omega)
    have q11 : wr.cell? ⟨l, 11, none⟩ = some (.slice ga (U + k) gc) := (HEK.out.list.cell 11 rfl).1
    have hne : wr.heap.size ≠ l := by have := HEK.out.list.lt; omega
    have a11 : ∀ X v, ((wr.alloc X).setCell ⟨wr.heap.size, 0, none⟩ v).cell? ⟨l, 11, none⟩ = some (.slice ga (U + k) gc) := fun X v => by
      rw [World.cell?_of_block (a := ⟨l, 11, none⟩) (Below.heap_setCell _ _ _ _ hne.symm), World.cell?_of_block (a := ⟨l, 11, none⟩) (Below.heap_alloc wr X l HEK.out.list.lt)]
      exact q11
    have b11 : ∀ X, (wr.alloc X).cell? ⟨l, 11, none⟩ = some (.slice ga (U + k) gc) := fun X => by
      rw [World.cell?_of_block (a := ⟨l, 11, none⟩) (Below.heap_alloc wr X l HEK.out.list.lt)]
      exact q11
    have HQ0 : Hid (W0.cell? ⟨l, 11, none⟩ = some (.slice ga (U + k) gc) ∧ l < W0.heap.size) := hide ⟨by rw [hW0]; exact b11 _, by have := HEK.out.list.lt; have := hb0.size; omega⟩
    have HX0 := hide hx0
    clear hb0 hx0 hlg0 hlv
    go_upto_region 5 with fail
    rw [← hW0]
    clear hW0 d0 d1 d2 d3 d4 d5 d6 q11 hne a11 b11 hr HXB HT HEND HL0
    have q0 := HQ0.out.1
    have q0d : W0.drew.cell? ⟨l, 11, none⟩ = some (.slice ga (U + k) gc) := q0
    have q0a : (W0.alloc (.cells #[.int .i64 ((U : Int) + (k : Int)), .int .i64 rp, .int .i64 rq, .int .i64 rc, .int .i64 ra, .int .i64 rb, .int .i64 rr] 53)).cell? ⟨l, 11, none⟩ = some (.slice ga (U + k) gc) := (World.cell?_of_block (a := ⟨l, 11, none⟩) (Below.heap_alloc W0 _ l HQ0.out.2)).trans q0
    have q0b : (W0.drew.alloc (.cells #[.int .i64 ((U : Int) + (k : Int)), .int .i64 rp, .int .i64 rq, .int .i64 rc, .int .i64 ra, .int .i64 rb, .int .i64 rr] 53)).cell? ⟨l, 11, none⟩ = some (.slice ga (U + k) gc) := q0a
    obtain ⟨x0, -⟩ := HX0.out.cell 0 rfl
    obtain ⟨x1, -⟩ := HX0.out.cell 1 rfl
    obtain ⟨x2, -⟩ := HX0.out.cell 2 rfl
    obtain ⟨x3, -⟩ := HX0.out.cell 3 rfl
    obtain ⟨x4, -⟩ := HX0.out.cell 4 rfl
    obtain ⟨x5', -⟩ := HX0.out.cell 5 rfl
    obtain ⟨x6, -⟩ := HX0.out.cell 6 rfl
    go_region_law (refine step_append_one 37 53 7 56 _ Try.underlying37 info_rec7 rfl (by decide) (by decide) (by rfl) _ _ (by rfl) (.slice ga (U + k) gc) (U + k) (recCells (log ++ numb log.length (T.take k))) (by rfl) #[.int .i64 ((U : Int) + (k : Int)), .int .i64 rp, .int .i64 rq, .int .i64 rc, .int .i64 ra, .int .i64 rb, .int .i64 rr] W0.drew (by rfl) HLG0.out (by rfl) HOC.out (by rfl) HUL.out ?_; intro v9 W9 ho9 hg9 hv9; obtain ⟨hA, t1, t2⟩ := HFN.out v9 W9 ho9 hg9 hv9; have HA9 := hide hA; obtain ⟨z1, z2, hz⟩ : ∃ a c, v9 = Value.slice a (U + k + 1) c := (by obtain ⟨a, c, h⟩ := row_form ho9; exact ⟨_, _, h⟩); subst hz; clear hA ho9 hg9 hv9)
    all_goals
      go_wp2
      go_roundw
      case rel => exact ⟨k + 1, _, by go_num, by omega, HA9⟩
      case measure => simp [intOf]; omega

end Go.Proofs.Ytedfacbngefhnaa
