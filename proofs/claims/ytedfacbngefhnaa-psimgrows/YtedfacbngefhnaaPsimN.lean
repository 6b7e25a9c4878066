/- The engine that copies: Invoke and Step. -/
import Derived.Test.YtedfacbngefhnaaPsimL
namespace Go.Proofs.Ytedfacbngefhnaa
open Go.RowKit Go.Maps

theorem EgM.n64 {K : Nat → Prop} {w : World} {eb : Nat} {e : Eg} {N : Nat} (h : EgM K w eb e N) : 1 ≤ e.n ∧ e.n ≤ 64 := by
  obtain ⟨L, M, g, h1, h2, h3, -⟩ := h
  exact ⟨h2.G.n1, h3.n⟩

theorem fits_ok {o : Opn} (h : FitsO o) : OpOk o := by
  unfold FitsO at h
  exact ⟨⟨by omega, by omega⟩, ⟨by omega, by omega⟩, ⟨by omega, by omega⟩⟩

/-- A process's operation has begun. -/
theorem EgM.begun {K : Nat → Prop} {w W : World} {eb : Nat} {L : HL} {e : Eg} {g : Nat → Nat} {M : Mc} {N p : Nat} {o : Opn} (I : Inv e g) (F : FitE e N) (hK : ∀ k, HasE eb L e.n k → ¬ K k) (hS : ∀ k, L.S k → ¬ K k) (hC : ∀ p, p < e.n → (e.ps p).nx = .readAnn ∨ (e.ps p).nx = .swapIn → L.cp p)
    (hp : p < e.n) (hx : (e.ps p).nx = .rest) (hf : FitsO o) (hd : BegDid w eb L (fun p => nxV (L.qs p) (e.ps p).nx) e p o M N W) : EgM K W eb (beginE e p o) (N + 2) ∧ Only (fun k => ¬ K k) w W := by
  obtain ⟨g1, g2⟩ := hd
  have e1 : (putN (fun p => nxV (L.qs p) (e.ps p).nx) p (nxV (L.qs p) .announce)) = fun q => nxV (L.qs q) ((beginE e p o).ps q).nx := by
    funext q
    show _ = nxV (L.qs q) (putN e.ps p _ q).nx
    by_cases a : q = p
    · rw [a, putN_same, putN_same]
    · rw [putN_other _ _ a, putN_other _ _ a]
  rw [e1] at g1
  have same : ∀ q, ((beginE e p o).ps q).resp = (e.ps q).resp ∧ ((beginE e p o).ps q).fresh = (e.ps q).fresh ∧ ((beginE e p o).ps q).mlast = (e.ps q).mlast := fun q => by
    show (putN e.ps p _ q).resp = _ ∧ (putN e.ps p _ q).fresh = _ ∧ (putN e.ps p _ q).mlast = _
    by_cases a : q = p
    · rw [a, putN_same]; exact ⟨rfl, rfl, rfl⟩
    · rw [putN_other _ _ a]; exact ⟨rfl, rfl, rfl⟩
  refine ⟨⟨L, M, g, g1.mono (by omega), begin_inv I hp hx o, ⟨F.n, ?_, ?_, F.recs, fun q hq => by rw [(same q).1]; exact F.resp q hq, fun q hq => ⟨(F.ops q hq).1, ?_⟩, F.last, fun q hq => by rw [(same q).2.1]; exact F.fresh q hq, fun q hq => by rw [(same q).2.2]; exact F.mlast q hq⟩, hK, hS, fun q hq hn => ?_⟩, g2.mono hK⟩
  · have := F.log
    show e.log.length ≤ _
    omega
  · intro q hq
    show (putN e.ps p _ q).seq ≤ _
    have hq' : q < e.n := hq
    have := F.seq q hq'
    by_cases a : q = p
    · rw [a, putN_same]
      have := F.seq p hp
      dsimp only
      omega
    · rw [putN_other _ _ a]
      omega
  · show OpOk (putN e.ps p _ q).op
    by_cases a : q = p
    · rw [a, putN_same]
      exact fits_ok hf
    · rw [putN_other _ _ a]
      exact (F.ops q hq).2
  · have hn2 : (putN e.ps p { e.ps p with nx := Nx.announce, seq := (e.ps p).seq + 1, op := o, began := (e.ps p).did } q).nx = .readAnn ∨ (putN e.ps p { e.ps p with nx := Nx.announce, seq := (e.ps p).seq + 1, op := o, began := (e.ps p).did } q).nx = .swapIn := hn
    by_cases a : q = p
    · rw [a, putN_same] at hn2
      rcases hn2 with hn2 | hn2 <;> cases hn2
    · rw [putN_other _ _ a] at hn2
      exact hC q hq hn2

/-- What Invoke answers, and leaves. -/
def Invoked (K : Nat → Prop) (w : World) (eb : Nat) (e : Eg) (N : Nat) (p : Int) (o : Opn) (r : Ending) (w' : World) : Prop :=
  r = .returned (.int .i64 (herlM.invoke e p o).2) ∧ EgM K w' eb (herlM.invoke e p o).1 (N + 2) ∧ Only (fun k => ¬ K k) w w'

set_option maxRecDepth 100000 in
set_option maxHeartbeats 1000000 in
theorem invoke_any {K : Nat → Prop} {w : World} {eb : Nat} {e : Eg} {N : Nat} (h : EgM K w eb e N) (_hKw : ∀ k, K k → k < w.heap.size) (hN : N ≤ 150000) (p : Int) (o : Opn) :
    Calls Try.prog 16 #[ptr eb, .int .i64 p, opV o] w fun r w' => Invoked K w eb e N p o r w' := by
  have hbx : Below w.heap.size w (w.alloc (.cells #[.int .i64 o.code, .int .i64 o.a, .int .i64 o.b] 26)) := (Below.refl _ _).alloc (Nat.le_refl _) _
  obtain ⟨W0, hW0⟩ : ∃ W0, W0 = w.alloc (.cells #[.int .i64 o.code, .int .i64 o.a, .int .i64 o.b] 26) := ⟨_, rfl⟩
  have hxb : Bk 26 W0 w.heap.size #[.int .i64 o.code, .int .i64 o.a, .int .i64 o.b] := by rw [hW0]; exact heap_alloc_new _ _
  rw [← hW0] at hbx
  have h0 := h.below hbx
  have HH := hide (has_any h0 p)
  have HF : Hid (Calls Try.prog 31 #[opV o] W0 fun r w' => r = .returned (.bool (decide (FitsO o))) ∧ Below W0.heap.size W0 w') := hide (fits_any o W0)
  have HE : Hid (∀ W, Below w.heap.size w W → (herlM.invoke e p o).1 = e → ∀ r, r = .returned (.int .i64 (herlM.invoke e p o).2) → Invoked K w eb e N p o r W) := hide fun W hb he r hr => ⟨hr, by rw [he]; exact (h.below hb).mono (by omega), Only.ofBelow hb⟩
  obtain ⟨co, oa, ob⟩ := o
  unfold opV at *
  have HBX := hide hbx
  have HXB := hide hxb
  have HW0 := hide hW0
  by_cases hp : herlM.has e p
  · rw [decide_eq_true hp] at HH
    by_cases hf : FitsO ⟨co, oa, ob⟩
    · rw [decide_eq_true hf] at HF
      have HBS : Hid (∀ W, Below w.heap.size w W → Calls Try.prog 13 #[ptr eb, .int .i64 p] W fun r w' => r = .returned (.bool (herlM.isBusy e p)) ∧ w' = W) := hide fun W hb => busy_any (h.below hb) p
      cases hbu : herlM.isBusy e p with
      | true =>
        rw [hbu] at HBS
        have hi : herlM.invoke e p ⟨co, oa, ob⟩ = (e, 14) := by unfold Mod.invoke; rw [if_neg (fun a => a.elim (fun a => a hp) fun a => a hf), if_pos hbu]
        have HI : Hid (∀ W, Below w.heap.size w W → Invoked K w eb e N p ⟨co, oa, ob⟩ (.returned (.int .i64 14)) W) := hide fun W hb => HE.out W hb (by rw [hi]) _ (by rw [hi])
        have x0 := (hxb.cell 0 rfl).1
        have x1 := (hxb.cell 1 rfl).1
        have x2 := (hxb.cell 2 rfl).1
        clear h h0 hp hf hbu hi hbx hxb hW0 _hKw hN HE
        go_enter Try.func16, Try.ntmps16
        go_upto_region 1 with fail
        rw [← HW0.out]
        go_wp2_with fail
        refine HH.out.mono ?_
        rintro r w' ⟨rfl, rfl⟩
        go_wp2_with fail
        refine HF.out.mono ?_
        rintro r W1 ⟨rfl, hb1⟩
        have HB1 := hide (HBX.out.trans (hb1.mono HBX.out.size))
        clear hb1
        go_wp2_with fail
        refine (HBS.out _ HB1.out).mono ?_
        rintro r w' ⟨rfl, rfl⟩
        go_wp2
        go_ret
        exact HI.out _ HB1.out
      | false =>
        rw [hbu] at HBS
        obtain ⟨q, rfl, hq0, hq⟩ := herlM.has_nat hp
        have hq : q < e.n := hq
        have hbq : (e.ps q).nx = .rest := by
          rw [isBusy_nat hq] at hbu
          simpa using hbu
        have hi : herlM.invoke e (q : Int) ⟨co, oa, ob⟩ = (beginE e q ⟨co, oa, ob⟩, 0) := by unfold Mod.invoke; rw [if_neg (fun a => a.elim (fun a => a hp) fun a => a hf), hbu, hq0]; rfl
        obtain ⟨L, M, g, h1, h2, h3, h4, h5, h6⟩ := id h
        obtain ⟨pb, pc, -, c0, c1, cp⟩ := h1.proc h2.G.n1
        have cq := cp q hq
        have HC : Hid (∀ W, Below w.heap.size w W → Calls Try.prog 32 #[ptr (L.qs q), .agg #[.int .i64 co, .int .i64 oa, .int .i64 ob]] W fun r w' => r = .returned (.tuple #[]) ∧ Invoked K w eb e N (q : Int) ⟨co, oa, ob⟩ (.returned (.int .i64 0)) w') := hide fun W hb => by
          refine (beginP_any (h1.below hb) hq h3 hN ⟨co, oa, ob⟩).mono fun r w' ⟨a1, a2⟩ => ⟨a1, by rw [hi], ?_⟩
          have := EgM.begun h2 h3 h4 h5 h6 hq hbq hf a2
          rw [hi]
          exact ⟨this.1, (Only.ofBelow hb).trans this.2 fun _ _ k => k⟩
        have HK : Hid (∀ W, Below w.heap.size w W → W.cell? ⟨eb, 1, none⟩ = some (.slice (some ⟨pb, 0, none⟩) e.n pc) ∧ W.cell? ⟨pb, q, none⟩ = some (ptr (L.qs q))) := hide fun W hb => by
          have hpb : pb < w.heap.size := World.block_lt_of_cell? w ⟨pb, q, none⟩ cq
          exact ⟨(World.cell?_of_block (a := ⟨eb, 1, none⟩) (hb.block eb h1.head.lt)).trans c1, (World.cell?_of_block (a := ⟨pb, q, none⟩) (hb.block pb hpb)).trans cq⟩
        have hqi : (q : Int) < (e.n : Int) := by omega
        have x0 := (hxb.cell 0 rfl).1
        have x1 := (hxb.cell 1 rfl).1
        have x2 := (hxb.cell 2 rfl).1
        have HXK : Hid (∀ W, Below W0.heap.size W0 W → W.cell? ⟨w.heap.size, 0, none⟩ = some (.int .i64 co) ∧ W.cell? ⟨w.heap.size, 1, none⟩ = some (.int .i64 oa) ∧ W.cell? ⟨w.heap.size, 2, none⟩ = some (.int .i64 ob)) := hide fun W hb => by
          have hx := hxb.keep (hb.block _ hxb.lt)
          exact ⟨(hx.cell 0 rfl).1, (hx.cell 1 rfl).1, (hx.cell 2 rfl).1⟩
        generalize L.qs q = qb at *
        clear h h0 hp hf hbu hi hbx hxb hW0 _hKw hN HE h1 h2 h3 h4 h5 h6 cp c0 c1 cq hq hbq hq0
        go_enter Try.func16, Try.ntmps16
        go_upto_region 1 with fail
        rw [← HW0.out]
        go_wp2_with fail
        refine HH.out.mono ?_
        rintro r w' ⟨rfl, rfl⟩
        go_wp2_with fail
        refine HF.out.mono ?_
        rintro r W1 ⟨rfl, hb1⟩
        have HBW := hide hb1
        have HB1 := hide (HBX.out.trans (hb1.mono HBX.out.size))
        clear hb1
        go_wp2_with fail
        refine (HBS.out _ HB1.out).mono ?_
        rintro r w' ⟨rfl, rfl⟩
        obtain ⟨k1, kq⟩ := HK.out _ HB1.out
        obtain ⟨y0, y1, y2⟩ := HXK.out _ HBW.out
        have HS : Hid (w'.drew.cell? ⟨eb, 1, none⟩ = some (.slice (some ⟨pb, 0, none⟩) e.n pc) ∧ w'.drew.cell? ⟨pb, q, none⟩ = some (ptr qb) ∧ w'.drew.cell? ⟨w.heap.size, 0, none⟩ = some (.int .i64 co) ∧ w'.drew.cell? ⟨w.heap.size, 1, none⟩ = some (.int .i64 oa) ∧ w'.drew.cell? ⟨w.heap.size, 2, none⟩ = some (.int .i64 ob)) := ⟨k1, kq, y0, y1, y2⟩
        have HBD := hide (HB1.out.drew)
        clear x0 x1 x2
        go_upto_region 5 with fail
        go_region_with
          (first | (go_at_call 32; refine (HC.out _ HBD.out).mono ?_; rintro r W2 ⟨rfl, hd2⟩; have HD2 := hide hd2; clear hd2))
        all_goals
          go_wp2
          go_ret
          exact HD2.out
    · rw [decide_eq_false hf] at HF
      have hi : herlM.invoke e p ⟨co, oa, ob⟩ = (e, 1) := by unfold Mod.invoke; rw [if_pos (.inr hf)]
      have HI : Hid (∀ W, Below w.heap.size w W → Invoked K w eb e N p ⟨co, oa, ob⟩ (.returned (.int .i64 1)) W) := hide fun W hb => HE.out W hb (by rw [hi]) _ (by rw [hi])
      have x0 := (hxb.cell 0 rfl).1
      have x1 := (hxb.cell 1 rfl).1
      have x2 := (hxb.cell 2 rfl).1
      clear h h0 hp hf hi hbx hxb hW0 _hKw hN HE
      go_enter Try.func16, Try.ntmps16
      go_upto_region 1 with fail
      rw [← HW0.out]
      go_wp2_with fail
      refine HH.out.mono ?_
      rintro r w' ⟨rfl, rfl⟩
      go_wp2_with fail
      refine HF.out.mono ?_
      rintro r W1 ⟨rfl, hb1⟩
      have HB1 := hide (HBX.out.trans (hb1.mono HBX.out.size))
      clear hb1
      go_wp2
      go_ret
      exact HI.out _ HB1.out
  · rw [decide_eq_false hp] at HH
    have hi : herlM.invoke e p ⟨co, oa, ob⟩ = (e, 1) := by unfold Mod.invoke; rw [if_pos (.inl hp)]
    have HI : Hid (∀ W, Below w.heap.size w W → Invoked K w eb e N p ⟨co, oa, ob⟩ (.returned (.int .i64 1)) W) := hide fun W hb => HE.out W hb (by rw [hi]) _ (by rw [hi])
    clear h h0 hp hi hbx hxb hW0 _hKw hN HE
    go_enter Try.func16, Try.ntmps16
    go_upto_region 1 with fail
    rw [← HW0.out]
    go_wp2_with fail
    refine HH.out.mono ?_
    rintro r w' ⟨rfl, rfl⟩
    go_wp2
    go_ret
    exact HI.out _ HBX.out

end Go.Proofs.Ytedfacbngefhnaa
