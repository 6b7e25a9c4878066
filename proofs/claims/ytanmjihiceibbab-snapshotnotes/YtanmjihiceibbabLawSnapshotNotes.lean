/- Proved: for all inputs the law SnapshotNotes answers true (and the call leaves all older memory as it was). No condition. -/
import Derived.Test.YtanmjihiceibbabSnapAwake
import Derived.Test.YtanmjihiceibbabOpenSnap
import Derived.Test.YtanmjihiceibbabOpenSchema
import Derived.Test.YtanmjihiceibbabPack4
import Derived.Deep.RegionHeld
import Derived.OpenShut
import Derived.ChangeOld
namespace Go.Proofs.Ytanmjihiceibbab.snapshotNotes
open Go.ChangeShapes Go.WideShapes Go.ChangeAt Go.RowKit

theorem entI_note {t : List Ent} {e : Ent} (ht : ∀ x ∈ t, EntI x) (he : EntI e) : ∀ x ∈ noteL t e, EntI x := fun x hx => by
  rcases (noteL_mem t e x).1 hx with h | ⟨h, _⟩
  · rw [h]; exact he
  · exact ht x h

/-- How many of the first k entries are of a process. -/
def cntP (a : List Ent) (p : Int) (k : Nat) : Nat := ((a.take k).filter (fun x => decide (x.proc = p))).length

theorem cntP_next {a : List Ent} {p : Int} {k : Nat} (h : k < a.length) : cntP a p (k + 1) = cntP a p k + if (a.getD k zeroE).proc = p then 1 else 0 := by
  unfold cntP
  rw [takeE_snoc h, List.filter_append, List.length_append]
  generalize a.getD k zeroE = x
  by_cases hp : x.proc = p <;> simp [hp]

theorem cntP_all {a : List Ent} {p : Int} {k : Nat} (h : a.length ≤ k) : cntP a p k = (a.filter (fun x => decide (x.proc = p))).length := by
  unfold cntP
  rw [List.take_of_length_le h]

theorem cntP_le (a : List Ent) (p : Int) (k : Nat) : cntP a p k ≤ k := by
  unfold cntP
  have h1 := List.length_filter_le (fun x : Ent => decide (x.proc = p)) (a.take k)
  have h2 : (a.take k).length ≤ k := by rw [List.length_take]; omega
  omega

set_option maxRecDepth 100000 in
set_option maxHeartbeats 4000000 in
theorem walk (v : Value) (t : List Ent) (r q : Rec) (w : World) (ht : RdE w v t) (hr : RecOk r) (hq : RecOk q) :
    Calls Try.prog 4 #[v, recV r, recV q] w fun e w' => e = .returned (.bool true) ∧ Below w.heap.size w w' := by
  have HA := hide (fun w => awake9_any w)
  have HTB := hide (fun v W h => refTable_any v t W h)
  have HNO := hide (fun v t r W h1 h2 h3 => noteN_any v t r W h1 h2 h3)
  have HSA := hide (fun va a vb b w h1 h2 => sameN_any va a vb b w h1 h2)
  have HT := hide ht
  have hti : ∀ e ∈ t, EntI e := by
    obtain ⟨_, _, _, _, _, _, h, _⟩ := ht
    exact h
  have HTI := hide hti
  have hml : (t.length : Int) ≤ 9223372036854775807 := by
    obtain ⟨_, c, _, h1, h2, _⟩ := ht
    unfold maxLen at h2
    omega
  obtain ⟨ta, tc, hv⟩ := ht.shape
  subst hv
  have HRO := hide hr
  have HQO := hide hq
  have HRI : Hid (EntI ⟨r.proc, r.seq, r.resp⟩) := hide ⟨hr.2.1, hr.2.2.1, hr.2.2.2.2⟩
  have HQI : Hid (EntI ⟨q.proc, q.seq, q.resp⟩) := hide ⟨hq.2.1, hq.2.2.1, hq.2.2.2.2⟩
  have HB0 : Hid (∀ X Y, Below w.heap.size w ((w.alloc X).alloc Y)) := fun X Y => ((Below.refl _ _).alloc (Nat.le_refl _) X).alloc (by simp) Y
  have HX0 : Hid (∀ cs ds, Br ((w.alloc (.cells cs 38)).alloc (.cells ds 38)) w.heap.size cs) := fun cs ds => (Below.heap_alloc _ _ _ (by simp)).trans (heap_alloc_new w _)
  have HY0 : Hid (∀ cs ds, Br ((w.alloc (.cells cs 38)).alloc (.cells ds 38)) (w.heap.size + 1) ds) := fun cs ds => new_two w _ _
  clear ht hr hq hti
  unfold recV
  go_enter Try.func4, Try.ntmps4
  go_wp2_with fail
  refine (HA.out _).mono ?_
  rintro e W1 ⟨rfl, hb1⟩
  have HX1 : Hid (Br W1 w.heap.size _) := hide ((HX0.out _ _).below hb1 (Nat.le_refl _))
  have HY1 : Hid (Br W1 (w.heap.size + 1) _) := hide ((HY0.out _ _).below hb1 (Nat.le_refl _))
  have HB1 := hide ((HB0.out _ _).trans (hb1.mono (HB0.out _ _).size))
  clear hb1 HA HX0 HY0 HB0
  go_wp2_with fail
  refine (HTB.out _ _ (HT.out.below HB1.out (Nat.le_refl _))).mono ?_
  rintro e W2 ⟨rfl, hb2⟩
  have HX2 : Hid (Br W2 w.heap.size _) := hide (HX1.out.below hb2 (Nat.le_refl _))
  have HY2 : Hid (Br W2 (w.heap.size + 1) _) := hide (HY1.out.below hb2 (Nat.le_refl _))
  have HB2 := hide (HB1.out.trans (hb2.mono HB1.out.size))
  clear hb2 HX1 HY1 HB1 HTB
  by_cases hok : TabOk t
  case neg =>
    rw [decide_eq_false hok]
    clear hok
    go_wp2
    go_ret
    exact ⟨rfl, HB2.out⟩
  rw [decide_eq_true hok]
  by_cases hM : (t.length : Int) ≤ 100
  case neg =>
    have hM' : 100 < (t.length : Int) := by omega
    clear hM hok
    go_wp2
    go_ret
    exact ⟨rfl, HB2.out⟩
  have hMd : decide (100 < (t.length : Int)) = false := decide_eq_false (by omega)
  have hMn : decide (100 < t.length) = false := decide_eq_false (by omega)
  have HSW : Hid (r.proc = q.proc ∨ noteL (noteL t ⟨r.proc, r.seq, r.resp⟩) ⟨q.proc, q.seq, q.resp⟩ = noteL (noteL t ⟨q.proc, q.seq, q.resp⟩) ⟨r.proc, r.seq, r.resp⟩) := hide (by
    by_cases h : r.proc = q.proc
    · exact .inl h
    · exact .inr (noteL_swap hok.rises h))
  have HONE := hide (noteL_one (noteL t ⟨r.proc, r.seq, r.resp⟩) ⟨q.proc, q.seq, q.resp⟩)
  have l1 := noteL_len t ⟨r.proc, r.seq, r.resp⟩
  have l2 := noteL_len (noteL t ⟨r.proc, r.seq, r.resp⟩) ⟨q.proc, q.seq, q.resp⟩
  have l3 := noteL_len t ⟨q.proc, q.seq, q.resp⟩
  have HI1 := hide (entI_note HTI.out HRI.out)
  have HI2 := hide (entI_note HI1.out HQI.out)
  have HI3 := hide (entI_note HTI.out HQI.out)
  have HI4 := hide (entI_note HI3.out HRI.out)
  have HN1 := hide (fun v W h => HNO.out v t r W h HRO.out (by omega))
  have HN2 := hide (fun v W h => HNO.out v (noteL t ⟨r.proc, r.seq, r.resp⟩) q W h HQO.out (by omega))
  have HN3 := hide (fun v W h => HNO.out v t q W h HQO.out (by omega))
  have HN4 := hide (fun v W h => HNO.out v (noteL t ⟨q.proc, q.seq, q.resp⟩) r W h HRO.out (by omega))
  unfold recV at HN1 HN2 HN3 HN4
  have HSK : Hid (∀ W, Below W2.heap.size W2 W → W.cell? ⟨w.heap.size, 0, none⟩ = some (.int .i64 r.idx) ∧ W.cell? ⟨w.heap.size, 1, none⟩ = some (.int .i64 r.proc) ∧ W.cell? ⟨w.heap.size, 2, none⟩ = some (.int .i64 r.seq) ∧ W.cell? ⟨w.heap.size, 3, none⟩ = some (.int .i64 r.op.code) ∧ W.cell? ⟨w.heap.size, 4, none⟩ = some (.int .i64 r.op.a) ∧ W.cell? ⟨w.heap.size, 5, none⟩ = some (.int .i64 r.op.b) ∧ W.cell? ⟨w.heap.size, 6, none⟩ = some (.int .i64 r.resp) ∧ W.cell? ⟨w.heap.size + 1, 0, none⟩ = some (.int .i64 q.idx) ∧ W.cell? ⟨w.heap.size + 1, 1, none⟩ = some (.int .i64 q.proc) ∧ W.cell? ⟨w.heap.size + 1, 2, none⟩ = some (.int .i64 q.seq) ∧ W.cell? ⟨w.heap.size + 1, 3, none⟩ = some (.int .i64 q.op.code) ∧ W.cell? ⟨w.heap.size + 1, 4, none⟩ = some (.int .i64 q.op.a) ∧ W.cell? ⟨w.heap.size + 1, 5, none⟩ = some (.int .i64 q.op.b) ∧ W.cell? ⟨w.heap.size + 1, 6, none⟩ = some (.int .i64 q.resp)) := hide (fun W h => by
    have hx := HX2.out.below h (Nat.le_refl _)
    have hy := HY2.out.below h (Nat.le_refl _)
    exact ⟨(hx.cell 0).1, (hx.cell 1).1, (hx.cell 2).1, (hx.cell 3).1, (hx.cell 4).1, (hx.cell 5).1, (hx.cell 6).1, (hy.cell 0).1, (hy.cell 1).1, (hy.cell 2).1, (hy.cell 3).1, (hy.cell 4).1, (hy.cell 5).1, (hy.cell 6).1⟩)
  have l2' : (noteL (noteL t ⟨r.proc, r.seq, r.resp⟩) ⟨q.proc, q.seq, q.resp⟩).length ≤ t.length + 2 := by omega
  clear hok HNO HX2 HY2 l1 l2 l3
  generalize noteL (noteL t ⟨q.proc, q.seq, q.resp⟩) ⟨r.proc, r.seq, r.resp⟩ = b4 at *
  generalize noteL (noteL t ⟨r.proc, r.seq, r.resp⟩) ⟨q.proc, q.seq, q.resp⟩ = b2 at *
  generalize noteL t ⟨q.proc, q.seq, q.resp⟩ = b3 at *
  generalize noteL t ⟨r.proc, r.seq, r.resp⟩ = b1 at *
  go_upto_region 5 with fail
  go_region_held (fun w' => w'.cell? ⟨w.heap.size, 0, none⟩ = some (.int .i64 r.idx) ∧ w'.cell? ⟨w.heap.size, 1, none⟩ = some (.int .i64 r.proc) ∧ w'.cell? ⟨w.heap.size, 2, none⟩ = some (.int .i64 r.seq) ∧ w'.cell? ⟨w.heap.size, 3, none⟩ = some (.int .i64 r.op.code) ∧ w'.cell? ⟨w.heap.size, 4, none⟩ = some (.int .i64 r.op.a) ∧ w'.cell? ⟨w.heap.size, 5, none⟩ = some (.int .i64 r.op.b) ∧ w'.cell? ⟨w.heap.size, 6, none⟩ = some (.int .i64 r.resp) ∧ w'.cell? ⟨w.heap.size + 1, 0, none⟩ = some (.int .i64 q.idx) ∧ w'.cell? ⟨w.heap.size + 1, 1, none⟩ = some (.int .i64 q.proc) ∧ w'.cell? ⟨w.heap.size + 1, 2, none⟩ = some (.int .i64 q.seq) ∧ w'.cell? ⟨w.heap.size + 1, 3, none⟩ = some (.int .i64 q.op.code) ∧ w'.cell? ⟨w.heap.size + 1, 4, none⟩ = some (.int .i64 q.op.a) ∧ w'.cell? ⟨w.heap.size + 1, 5, none⟩ = some (.int .i64 q.op.b) ∧ w'.cell? ⟨w.heap.size + 1, 6, none⟩ = some (.int .i64 q.resp)) (first | exact HSK.out _ (by assumption) | exact HSK.out _ (Below.refl _ _).drew)
    (first
      | (go_at_call_of 13 (Value.agg #[.int .i64 r.idx, .int .i64 r.proc, .int .i64 r.seq, .int .i64 r.op.code, .int .i64 r.op.a, .int .i64 r.op.b, .int .i64 r.resp]); refine (HN1.out _ _ (HT.out.below (HB2.out.drew) (Nat.le_refl _))).mono ?_; rintro e W3 ⟨v3, rfl, ho3, hb3⟩; have hbk3 : Below W2.heap.size W2 W3 := ((Below.refl _ _).drew).trans hb3; have HO3 := hide (ho3.rd HI1.out); obtain ⟨a3, c3, hv3⟩ := ho3.shape; subst hv3; clear ho3 hb3)
      | (go_at_call_of 13 (Value.agg #[.int .i64 q.idx, .int .i64 q.proc, .int .i64 q.seq, .int .i64 q.op.code, .int .i64 q.op.a, .int .i64 q.op.b, .int .i64 q.resp]); refine (HN2.out _ _ HO3.out).mono ?_; rintro e W4 ⟨v4, rfl, ho4, hb4⟩; have hbk4 : Below W2.heap.size W2 W4 := hbk3.trans (hb4.mono hbk3.size); have HO4 := hide (ho4.rd HI2.out); obtain ⟨a4, c4, hv4⟩ := ho4.shape; subst hv4; clear ho4 hb4))
  have HB4 := hide hbk4
  have HBW4 := hide (HB2.out.trans (hbk4.mono HB2.out.size))
  clear hbk3 hbk4 HO3 HN1 HN2
  go_upto_region 6 with fail
  go_region_held (fun w' => w'.cell? ⟨w.heap.size, 0, none⟩ = some (.int .i64 r.idx) ∧ w'.cell? ⟨w.heap.size, 1, none⟩ = some (.int .i64 r.proc) ∧ w'.cell? ⟨w.heap.size, 2, none⟩ = some (.int .i64 r.seq) ∧ w'.cell? ⟨w.heap.size, 3, none⟩ = some (.int .i64 r.op.code) ∧ w'.cell? ⟨w.heap.size, 4, none⟩ = some (.int .i64 r.op.a) ∧ w'.cell? ⟨w.heap.size, 5, none⟩ = some (.int .i64 r.op.b) ∧ w'.cell? ⟨w.heap.size, 6, none⟩ = some (.int .i64 r.resp) ∧ w'.cell? ⟨w.heap.size + 1, 0, none⟩ = some (.int .i64 q.idx) ∧ w'.cell? ⟨w.heap.size + 1, 1, none⟩ = some (.int .i64 q.proc) ∧ w'.cell? ⟨w.heap.size + 1, 2, none⟩ = some (.int .i64 q.seq) ∧ w'.cell? ⟨w.heap.size + 1, 3, none⟩ = some (.int .i64 q.op.code) ∧ w'.cell? ⟨w.heap.size + 1, 4, none⟩ = some (.int .i64 q.op.a) ∧ w'.cell? ⟨w.heap.size + 1, 5, none⟩ = some (.int .i64 q.op.b) ∧ w'.cell? ⟨w.heap.size + 1, 6, none⟩ = some (.int .i64 q.resp)) (first | exact HSK.out _ (by assumption) | exact HSK.out _ HB4.out.drew)
    (first
      | (go_at_call_of 13 (Value.agg #[.int .i64 q.idx, .int .i64 q.proc, .int .i64 q.seq, .int .i64 q.op.code, .int .i64 q.op.a, .int .i64 q.op.b, .int .i64 q.resp]); refine (HN3.out _ _ (HT.out.below (HBW4.out.drew) (Nat.le_refl _))).mono ?_; rintro e W5 ⟨v5, rfl, ho5, hb5⟩; have hbk5 : Below W2.heap.size W2 W5 := HB4.out.drew.trans (hb5.mono HB4.out.size); have HO5 := hide (ho5.rd HI3.out); have HO45 := hide (HO4.out.below (((Below.refl _ _).drew).trans hb5) (Nat.le_refl _)); obtain ⟨a5, c5, hv5⟩ := ho5.shape; subst hv5; clear ho5 hb5)
      | (go_at_call_of 13 (Value.agg #[.int .i64 r.idx, .int .i64 r.proc, .int .i64 r.seq, .int .i64 r.op.code, .int .i64 r.op.a, .int .i64 r.op.b, .int .i64 r.resp]); refine (HN4.out _ _ HO5.out).mono ?_; rintro e W6 ⟨v6, rfl, ho6, hb6⟩; have hbk6 : Below W2.heap.size W2 W6 := hbk5.trans (hb6.mono hbk5.size); have HO6 := hide (ho6.rd HI4.out); have HO46 := hide (HO45.out.below hb6 (Nat.le_refl _)); obtain ⟨a6, c6, hv6⟩ := ho6.shape; subst hv6; clear ho6 hb6))
  have HB6 := hide hbk6
  have HBW6 := hide (HB2.out.trans (hbk6.mono HB2.out.size))
  clear hbk5 hbk6 HO4 HO5 HO45 HB4 HBW4 HN3 HN4
  have hgd := guard_ent
  have HML2 : Hid ((b2.length : Int) ≤ 200) := hide (by omega)
  obtain ⟨b2a, b2c, hbe, -, -, -, -, hb2o⟩ := id HO46.out
  simp only [Value.slice.injEq] at hbe
  obtain ⟨e1, -, e2⟩ := hbe
  subst e1 e2
  have HBO := hide hb2o
  clear hb2o
  have HEQ : Hid (∀ k, k < b2.length → (b2.getD k zeroE).proc = q.proc → b2.getD k zeroE = ⟨q.proc, q.seq, q.resp⟩) := hide (fun k hk hp => by
    have hm : b2.getD k zeroE ∈ b2.filter (fun x => decide (x.proc = q.proc)) := List.mem_filter.2 ⟨by simp [List.getD, hk], decide_eq_true hp⟩
    have ho : b2.filter (fun x => decide (x.proc = q.proc)) = [⟨q.proc, q.seq, q.resp⟩] := HONE.out
    rw [ho] at hm
    exact List.mem_singleton.1 hm)
  have HCA : Hid (∀ k, b2.length ≤ k → cntP b2 q.proc k = 1) := hide (fun k hk => by
    have ho : b2.filter (fun x => decide (x.proc = q.proc)) = [⟨q.proc, q.seq, q.resp⟩] := HONE.out
    rw [cntP_all hk, ho]
    rfl)
  have HCN := hide (fun k hk => cntP_next (a := b2) (p := q.proc) (k := k) hk)
  have HCL := hide (fun k => cntP_le b2 q.proc k)
  have hm2 : (b2.length : Int) ≤ 200 := HML2.out
  have HC0 : Hid (cntP b2 q.proc 0 = 0) := hide rfl
  go_wp2
  go_loopw [11, 12, 13] (fun vn vl vi wr => ∃ (k n : Nat), vi = .int .i64 (k : Int) ∧ vn = .int .i64 (n : Int) ∧ vl = .bool true ∧ k ≤ b2.length ∧ n ≤ k ∧ Hid (n = cntP b2 q.proc k) ∧ Hid (∃ m, wr = W6.drewN m)) (fun _ _ vi _ => b2.length - (intOf vi).toNat)
  case atStart => exact ⟨0, 0, rfl, rfl, rfl, Nat.zero_le _, Nat.le_refl _, hide HC0.out.symm, ⟨0, rfl⟩⟩
  case round =>
    obtain ⟨k, n, rfl, rfl, rfl, hk, hnk, hN, hW⟩ := hrel
    obtain ⟨m, hwr⟩ := hW.out
    subst hwr
    by_cases hlt : k < b2.length
    · rcases HBO.out with h0 | ⟨c, off, rfl, hc⟩
      · rw [h0] at hlt; simp at hlt
      obtain ⟨c0, c1, c2⟩ := hc k hlt
      obtain ⟨-, x1, -, -, -, -, -, -, y1, y2, -, -, -, y6⟩ := HSK.out W6 HB6.out
      have hki : (k : Int) < (b2.length : Int) := by omega
      have HEK := hide (HEQ.out k hlt)
      have HCK := hide (HCN.out k hlt)
      clear hc
      generalize b2.getD k zeroE = x at *
      by_cases hp : x.proc = q.proc
      · have hx := HEK.out hp
        have hpb : (x.proc == q.proc) = true := beq_iff_eq.2 hp
        have HN2 : Hid (n + 1 = cntP b2 q.proc (k + 1)) := hide (by rw [HCK.out, if_pos hp, ← hN.out])
        have heq := fun W => eql_ent W x ⟨q.proc, q.seq, q.resp⟩
        rw [hx, eqEnt_self] at heq
        dsimp only at heq
        subst hx
        dsimp only at c0 c1 c2
        have hpq : (q.proc == q.proc) = true := beq_self_eq_true _
        clear hp HEK HCK hpb
        go_upto_region 12 with fail
        go_quiet (fail)
        go_upto_region 14 with fail
        go_quiet (fail)
        go_wp2
        go_roundw
        case rel => exact ⟨k + 1, n + 1, by go_num, by go_num, rfl, by omega, by omega, HN2, ⟨_, rfl⟩⟩
        case measure => simp [intOf]; omega
      · have hpb : (x.proc == q.proc) = false := beq_eq_false_iff_ne.2 hp
        have HN2 : Hid (n = cntP b2 q.proc (k + 1)) := hide (by rw [HCK.out, if_neg hp, ← hN.out, Nat.add_zero])
        clear hp HEK HCK
        go_upto_region 12 with fail
        go_quiet (fail)
        go_wp2
        go_roundw
        case rel => exact ⟨k + 1, n, by go_num, rfl, rfl, by omega, by omega, HN2, ⟨_, rfl⟩⟩
        case measure => simp [intOf]; omega
    have hnlt : ¬ (k : Int) < (b2.length : Int) := by omega
    have hn1 : n = 1 := by rw [hN.out, HCA.out k (by omega)]
    subst hn1
    obtain ⟨-, x1, -, -, -, -, -, -, y1, -⟩ := HSK.out W6 HB6.out
    have HZI : Hid (I64 0) := hide (i64_lit (by decide) (by decide))
    have HV1 : Hid (SnV (W6.drewN m) (.agg #[.int .i64 0, .int .i64 0, .slice none 0 0, .bool false, .int .i64 0, .slice a4 b2.length c4]) ⟨0, zeroS, b2⟩) := hide ⟨_, _, rfl, RdI.nil _, HZI.out, HZI.out, HO46.out.below (below_drewN (Below.refl _ _) _) (Nat.le_refl _), HZI.out⟩
    have HV2 : Hid (SnV (W6.drewN m) (.agg #[.int .i64 0, .int .i64 0, .slice none 0 0, .bool false, .int .i64 0, .slice a6 b4.length c6]) ⟨0, zeroS, b4⟩) := hide ⟨_, _, rfl, RdI.nil _, HZI.out, HZI.out, HO6.out.below (below_drewN (Below.refl _ _) _) (Nat.le_refl _), HZI.out⟩
    have HSS := hide (HSA.out _ _ _ _ _ HV1.out HV2.out)
    have hlen : (b2.length : Int) ≤ (t.length : Int) + 2 := by omega
    have HXR : Hid (∀ W, Below W6.heap.size W6 W → W.cell? ⟨w.heap.size, 1, none⟩ = some (.int .i64 r.proc) ∧ W.cell? ⟨w.heap.size + 1, 1, none⟩ = some (.int .i64 q.proc)) := hide (fun W h => by
      have hb := HSK.out W (HB6.out.trans (h.mono HB6.out.size))
      exact ⟨hb.2.1, hb.2.2.2.2.2.2.2.2.1⟩)
    obtain ⟨D, hD⟩ : ∃ D, D = decide (SameN ⟨0, zeroS, b2⟩ ⟨0, zeroS, b4⟩) := ⟨_, rfl⟩
    rw [← hD] at HSS
    have HDT : Hid (D = true ∨ (r.proc == q.proc) = true) := hide (by
      rcases HSW.out with h | h
      · exact .inr (beq_iff_eq.2 h)
      · refine .inl ?_
        rw [hD]
        exact decide_eq_true ⟨⟨rfl, rfl, rfl, rfl⟩, rfl, h⟩)
    clear hD x1 y1 HV1 HV2 HSA
    go_wp2_with fail
    refine HSS.out.mono ?_
    rintro e W7 ⟨rfl, hb7⟩
    have hb67 : Below W6.heap.size W6 W7 := (below_drewN (Below.refl _ _) m).trans hb7
    obtain ⟨x1, y1⟩ := HXR.out W7 hb67
    have HB7 := hide (HBW6.out.trans (hb67.mono HBW6.out.size))
    clear hb7 hb67
    cases D with
    | true =>
      go_wp2
      go_ret
      exact ⟨rfl, HB7.out⟩
    | false =>
      rcases HDT.out with h | h
      · cases h
      · go_wp2
        go_ret
        exact ⟨rfl, HB7.out⟩

theorem own : ownKnob Try.prog.godebug = none := by kernel_rfl
theorem laidOut : laidOutB Try.prog = true := by kernel_rfl

set_option linter.unusedVariables false in
set_option maxRecDepth 100000 in
theorem lifted (os : Os) (started : os.Started) (H : Type) (enc : TypeId × Value → H) :
    ReturnsInHanded {} Try.checked os 4 .any (Rows.snapshotNotesSpec.pre6 enc Try.prog Try.f4 Rows.snapshotNotesRow.domain false) (Rows.snapshotNotesSpec.post enc Try.prog Try.f4 false true false false) := by
  refine returnsInHanded_of_change (C := Try.checked) own started (by kernel_rfl) Try.func4
    (ChangeSpec.witness6 (enc := enc) (C := Try.checked) false ⟨#[], #[.slice none 0 0, .agg #[.int .i64 0, .int .i64 0, .int .i64 0, .int .i64 0, .int .i64 0, .int .i64 0, .int .i64 0], .agg #[.int .i64 0, .int .i64 0, .int .i64 0, .int .i64 0, .int .i64 0, .int .i64 0, .int .i64 0]], []⟩ 8 (by kernel_rfl) (by kernel_rfl) (by kernel_rfl) (by kernel_rfl)) ?_
  intro W base args ds gs before hval0 hW hcnd _
  have hval : ∀ (j : Nat) t v, Try.f4.params[j]? = some t → args[j]? = some v → Value.okWide Try.prog W .any base t v := hval0
  have hW' := hW
  obtain ⟨p, q, hA0, hV, rfl, hfz, hnd⟩ := hW
  have hA : DataW.TrodAll enc Try.prog W 0 (fun _ => true) true Try.f4.params.toList args.toList ds p := hA0
  rw [Try.params4] at hA hval
  obtain ⟨v0, vs0, d0, ds0, p0, q0, hargs, rfl, rfl, h0, r0⟩ := trodAll_cons hA
  obtain ⟨v1, vs1, d1, ds1, p1, q1, rfl, rfl, rfl, h1, r1⟩ := trodAll_cons r0
  obtain ⟨v2, vs2, d2, ds2, p2, q2, rfl, rfl, rfl, h2, r2⟩ := trodAll_cons r1
  obtain ⟨rfl, rfl, rfl⟩ := trodAll_nil r2
  obtain rfl : args = #[v0, v1, v2] := by cases args; simp_all
  obtain ⟨rfl, rfl⟩ := trodVars_none hV
  obtain ⟨a0, len0, cap0, rfl⟩ := okWide_slice Try.underlying25 (hval 0 25 v0 rfl rfl)
  have k0 := h0
  have lt0 : ∀ x ∈ p0, x.block < W.heap.size := by obtain ⟨m, hm⟩ := k0; exact DataW.trod_lt m _ _ _ hm
  obtain ⟨l0, w0⟩ : ∃ l, RdE W (.slice a0 len0 cap0) l := by
    obtain ⟨fuel, hf⟩ := h0
    obtain ⟨v, l, hcs, hr⟩ := open_ents hf
    simp [Value.cells] at hcs
    subst hcs
    exact ⟨l, hr⟩
  have lt1 : ∀ x ∈ p1, x.block < W.heap.size := by obtain ⟨m, hm⟩ := h1; exact DataW.trod_lt m _ _ _ hm
  obtain ⟨s1, e1, w1⟩ := open_rec (hval 1 38 v1 rfl rfl) h1
  subst e1
  have k1 := h1
  have lt2 : ∀ x ∈ p2, x.block < W.heap.size := by obtain ⟨m, hm⟩ := h2; exact DataW.trod_lt m _ _ _ hm
  obtain ⟨s2, e2, w2⟩ := open_rec (hval 2 38 v2 rfl rfl) h2
  subst e2
  have k2 := h2
  clear hA0 hval0
  refine (walk _ l0 s1 s2 W w0 w1 w2).mono fun e W' ⟨he, bel⟩ => ?_
  subst he
  exact ⟨_, rfl, _, _, _, [], _, [], hW', trodAll_mk1 (shut_bool Try.underlying4 _), (trodAll_cons_mk (Below.trod laidOut (by kernel_rfl) (of_decide_eq_true (by kernel_rfl)) k0 bel lt0) (trodAll_cons_mk (Below.trod laidOut (by kernel_rfl) (of_decide_eq_true (by kernel_rfl)) k1 bel lt1) (trodAll_cons_mk (Below.trod laidOut (by kernel_rfl) (of_decide_eq_true (by kernel_rfl)) k2 bel lt2) trodAll_mk0))), rfl, bel.frame _, fun h => by cases h⟩

theorem over : Rows.snapshotNotesRow.holds Try.pinned (OpenSpec.ofChange Rows.snapshotNotesSpec) :=
  OpenClaim.holds_of_wide 4 Try.f4 rfl rfl rfl rfl rfl rfl rfl ⟨rfl, rfl, rfl, rfl, rfl⟩ rfl rfl rfl rfl rfl (by kernel_rfl) Try.func4 (by kernel_rfl)
    (of_decide_eq_true (by kernel_rfl)) (by unfold Func.isWrapper; first | (rw [if_pos (by decide +kernel)]; kernel_rfl) | (rw [if_neg (by decide +kernel)]; exact ⟨rfl, rfl⟩))
    (fun os started H enc _ => lifted os started H enc)

end Go.Proofs.Ytanmjihiceibbab.snapshotNotes
namespace Go.Proofs.Ytanmjihiceibbab

theorem snapshotNotes_holds : Rows.SnapshotNotesSaid := snapshotNotes.over

end Go.Proofs.Ytanmjihiceibbab
