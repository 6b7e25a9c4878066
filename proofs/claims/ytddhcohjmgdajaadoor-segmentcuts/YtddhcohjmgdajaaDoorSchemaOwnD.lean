/- Contract of schema: getFields. -/
import Derived.Test.YtddhcohjmgdajaaDoorSchemaOwnB
import Derived.Test.YtddhcohjmgdajaaDoorSchemaOwnC
import Derived.Test.YtddhcohjmgdajaaDoorPack5
namespace Go.Proofs.YtddhcohjmgdajaaDoor
open Go.RowKit

/-- Which fields lack yet: as many as were not found, and of those behind the last one just those that the version has. -/
structure LackK (v : Nat) (L : Int) (K : List Int) (F : Nat) : Prop where
  count : K.length + F = v + 2
  mem : ∀ f : Nat, L < (f : Int) → ((f : Int) ∈ K ↔ hasV v f)
  few : ∀ n ∈ K, 1 ≤ n ∧ n ≤ 5

theorem LackK.start {v : Nat} (h1 : 1 ≤ v) (h3 : v ≤ 3) : LackK v (-1) (fieldsI (v : Int)) 0 := by
  have hv : v = 1 ∨ v = 2 ∨ v = 3 := by omega
  rcases hv with rfl | rfl | rfl
  · refine ⟨rfl, fun f _ => ?_, fun n hn => ?_⟩
    · show (f : Int) ∈ [1, 2, 4] ↔ _
      unfold hasV
      simp
      omega
    · have : n ∈ [1, 2, 4] := hn
      simp at this
      omega
  · refine ⟨rfl, fun f _ => ?_, fun n hn => ?_⟩
    · show (f : Int) ∈ [1, 2, 3, 4] ↔ _
      unfold hasV
      simp
      omega
    · have : n ∈ [1, 2, 3, 4] := hn
      simp at this
      omega
  · refine ⟨rfl, fun f _ => ?_, fun n hn => ?_⟩
    · show (f : Int) ∈ [1, 2, 3, 4, 5] ↔ _
      unfold hasV
      simp
      omega
    · have : n ∈ [1, 2, 3, 4, 5] := hn
      simp at this
      omega

theorem LackK.pass {v : Nat} {L : Int} {K : List Int} {F f : Nat} (h : LackK v L K F) (hf : L < (f : Int)) : LackK v f K F :=
  ⟨h.count, fun g hg => h.mem g (by omega), h.few⟩

theorem LackK.i64 {v : Nat} {L : Int} {K : List Int} {F : Nat} (h : LackK v L K F) : ∀ n ∈ K, I64 n := fun n hn => by
  have := h.few n hn
  exact ⟨by omega, by omega⟩

theorem LackK.there {v : Nat} {L : Int} {K : List Int} {F f : Nat} (h : LackK v L K F) (hf : L < (f : Int)) (hh : hasV v f) : K.idxOf (f : Int) < K.length ∧ placeN (f : Int) K = (K.idxOf (f : Int) : Nat) := by
  have hm := (h.mem f hf).2 hh
  refine ⟨List.idxOf_lt_length_iff.2 hm, ?_⟩
  unfold placeN
  rw [if_pos hm]

theorem LackK.none' {v : Nat} {L : Int} {K : List Int} {F f : Nat} (h : LackK v L K F) (hf : L < (f : Int)) (hh : ¬ hasV v f) : placeN (f : Int) K = -1 := by
  unfold placeN
  rw [if_neg (fun hm => hh ((h.mem f hf).1 hm))]

theorem LackK.strike {v : Nat} {L : Int} {K : List Int} {F f : Nat} (h : LackK v L K F) (hf : L < (f : Int)) (hi : K.idxOf (f : Int) < K.length) : LackK v f (K.take (K.idxOf (f : Int)) ++ K.drop (K.idxOf (f : Int) + 1)) (F + 1) := by
  have he : K[K.idxOf (f : Int)] = (f : Int) := List.getElem_idxOf hi
  generalize K.idxOf (f : Int) = i at *
  have hsub : ∀ n, n ∈ K.take i ++ K.drop (i + 1) → n ∈ K := fun n hn => by
    rcases List.mem_append.1 hn with h1 | h1
    · exact List.mem_of_mem_take h1
    · exact List.mem_of_mem_drop h1
  refine ⟨?_, fun g hg => ?_, fun n hn => h.few n (hsub n hn)⟩
  · have := h.count
    simp
    omega
  · rw [← h.mem g (by omega)]
    refine ⟨hsub _, fun hm => ?_⟩
    have hK : K = K.take i ++ K[i] :: K.drop (i + 1) := by
      rw [List.getElem_cons_drop]
      exact (List.take_append_drop i K).symm
    rw [hK] at hm
    rcases List.mem_append.1 hm with h1 | h1
    · exact List.mem_append.2 (.inl h1)
    · rcases List.mem_cons.1 h1 with h2 | h2
      · exfalso
        rw [he] at h2
        omega
      · exact List.mem_append.2 (.inr h2)

theorem passN_le (l : List UInt8) : passN l ≤ l.length := by
  unfold passN
  split
  · exact Nat.zero_le _
  · omega

/-- The length of a slice. -/
def lenV : Value → Nat
  | .slice _ n _ => n
  | _ => 0

/-- The boxes within getFields. -/
structure FldI (w wr : World) (r : Rec) : Prop where
  res : Bx7 wr w.heap.size zeroR
  box : Bx7 wr (w.heap.size + 1) r
  below : Below w.heap.size w wr

theorem Bx7.cell {w : World} {b : Nat} {r : Rec} (h : Bx7 w b r) (j : Nat) : w.cell? ⟨b, j, none⟩ = #[Value.int .i64 r.idx, .int .i64 r.proc, .int .i64 r.seq, .int .i64 r.op.code, .int .i64 r.op.a, .int .i64 r.op.b, .int .i64 r.resp][j]? ∧ w.frozen? ⟨b, j, none⟩ = false := Br.cell h j

theorem FldI.drewN {w wr : World} {r : Rec} (h : FldI w wr r) (q : Nat) : FldI w (wr.drewN q) r :=
  ⟨Br.below h.res (below_drewN (Below.refl _ _) q) (Nat.le_refl _), Br.below h.box (below_drewN (Below.refl _ _) q) (Nat.le_refl _), below_drewN h.below q⟩

theorem FldI.set {w wr W : World} {r X : Rec} (h : FldI w wr r) (hx : Bx7 W (w.heap.size + 1) X) (hb : But (w.heap.size + 1) (w.heap.size + 1) wr W) : FldI w W X := by
  have hl := Br.lt h.res
  refine ⟨(hb.block _ hl (by omega) (by omega)).trans h.res, hx, ⟨hb.os.trans h.below.os, hb.tape.trans h.below.tape, hb.output.trans h.below.output, Nat.le_trans h.below.size hb.size, fun k hk => ?_⟩⟩
  have := h.below.size
  rw [hb.block k (by omega) (by omega) (by omega)]
  exact h.below.block k hk

theorem FldI.on {w wr W : World} {r : Rec} (h : FldI w wr r) (hb : Below (w.heap.size + 1 + 1) wr W) : FldI w W r := by
  have := h.below.size
  exact ⟨(hb.block _ (by omega)).trans h.res, (hb.block _ (by omega)).trans h.box, h.below.trans (hb.mono (by omega))⟩

/-- What came of the fields: an error, or a record. -/
def FieldsGot (w : World) (D : Rec × Int) (e : Ending) (w' : World) : Prop :=
  ∃ r n, e = .returned (.tuple #[recV r, .int .i64 n]) ∧ (n ≠ 0 ∧ D = (zeroR, n) ∨ n = 0 ∧ D = if FitsR r then (r, 0) else (zeroR, 1)) ∧ Below w.heap.size w w'

/-- A cut of bytes: the value, and what it reads as, in the first world. -/
theorem cut_there (w : World) (ao : Option Addr) (l : List UInt8) (cap : Nat) (hr : Rd w (.slice ao l.length cap) l) (n : Nat) (hn : n ≤ l.length) :
    ∃ a c, Rd w (.slice a (l.drop n).length c) (l.drop n) ∧ ∀ W, (Instr.sliceAt 26 (.slice ao l.length cap) (some (.int .i64 (n : Int))) none none).run Tryd.prog W = .ok (.slice a (l.drop n).length c) W := by
  have h := cut_form w ao cap l hr n hn
  have hlc : l.length ≤ cap := by
    obtain ⟨a, c, e, h, -⟩ := hr
    simp only [Value.slice.injEq] at e
    omega
  refine ⟨_, _, by rw [List.length_drop]; exact h, fun W => ?_⟩
  rw [run_cut_all W ao l cap hlc (n : Int) n rfl hn, List.length_drop]
  simp [sliced]

set_option maxRecDepth 100000 in
set_option maxHeartbeats 8000000 in
theorem getFields_any (v : Nat) (hv1 : 1 ≤ v) (hv3 : v ≤ 3) (vb : Value) (l : List UInt8) (w : World) (hr : Rd w vb l) (hlim : l.length ≤ 1000000) (ht : TabF w) :
    Calls Tryd.prog 103 #[.int .i64 (v : Int), vb] w fun e w' => FieldsGot w (finR v (walkV v l (-1) 0 zeroR)) e w' := by
  obtain ⟨D, hD⟩ : ∃ D, D = finR v (walkV v l (-1) 0 zeroR) := ⟨_, rfl⟩
  rw [← hD]
  have HD := hide hD
  clear hD
  unfold FieldsGot
  have HR := hide hr
  obtain ⟨ao, cap, rfl, -⟩ := hr
  have HLS := hide (LackK.start hv1 hv3)
  have HB0 : Hid (∀ X Y, Below w.heap.size w ((w.alloc X).alloc Y)) := fun X Y => ((Below.refl _ _).alloc (Nat.le_refl _) X).alloc (by simp) Y
  have HS0 : Hid (∀ X Y, ((w.alloc X).alloc Y).heap.size = w.heap.size + 1 + 1) := fun X Y => by simp
  obtain ⟨x, hx, hrx⟩ := ht.get (v : Int) (by omega) (by omega)
  have h0 := ht.lt
  rw [Int.toNat_natCast] at hx
  have hx2 : ∀ X Y, ((w.alloc X).alloc Y).cell? ⟨0, v, none⟩ = some x := fun X Y => ((HB0.out X Y).cell (p := ⟨0, v, none⟩) h0).trans hx
  have HCL := hide (fun X Y => cloneN_any x _ _ (hrx.below (HB0.out X Y) (Nat.le_refl _)) (by rw [fieldsI_len]; have := (fields_five (v : Int)).1; omega))
  have HFI : Hid (FldI w ((w.alloc (.cells #[.int .i64 0, .int .i64 0, .int .i64 0, .int .i64 0, .int .i64 0, .int .i64 0, .int .i64 0] 48)).alloc (.cells #[.int .i64 0, .int .i64 0, .int .i64 0, .int .i64 0, .int .i64 0, .int .i64 0, .int .i64 0] 48)) zeroR) := hide ⟨(Below.heap_alloc _ _ _ (by simp)).trans (heap_alloc_new w _), two_new w _ _, HB0.out _ _⟩
  generalize fieldsI (v : Int) = FI at *
  obtain ⟨ax, cx, rfl, -⟩ := hrx
  clear ht hx
  go_enter Tryd.func103, Tryd.ntmps103
  go_wp2_with fail
  refine (HCL.out _ _).mono ?_
  rintro e W1 ⟨v1, rfl, ho1, hb1⟩
  rw [HS0.out] at ho1 hb1
  have HO1 := hide ho1
  have HF1 := hide (HFI.out.on hb1)
  clear ho1 hb1 HFI HCL hx2 h0 HS0 HB0
  go_wp2
  go_loopw [1, 7, 8] (fun tb tl ta wr => ∃ (M : List UInt8) (K : List Int) (L : Int) (F : Nat) (r : Rec) (a1 : Option Addr) (c1 : Nat), tb = .slice a1 M.length c1 ∧ ta = .int .i64 L ∧ M.length ≤ 1000000 ∧ Hid (Rd w (.slice a1 M.length c1) M) ∧ Hid (OwnI wr (w.heap.size + 1 + 1) tl K) ∧ Hid (LackK v L K F) ∧ Hid (D = finR v (walkV v M L F r)) ∧ Hid (FldI w wr r)) (fun tb _ _ _ => lenV tb)
  case atStart => exact ⟨l, FI, -1, 0, zeroR, ao, cap, rfl, rfl, hlim, HR, HO1, HLS, HD, HF1⟩
  case round =>
    obtain ⟨M, K, L, F, r, a1, c1, rfl, rfl, hM, HRM, HOK, HLK, HW, HAT⟩ := hrel
    clear HO1 HLS HD HF1 HR hlim
    obtain ⟨a7, c7, rfl⟩ := HOK.out.shape
    have hKc := HLK.out.count
    by_cases hm : M = []
    · subst hm
      have HW2 : Hid (D = finR v (.ok (r, F))) := hide (by rw [HW.out, walk_nil])
      clear HW HRM
      by_cases hK : K.length = 0
      · have HE : Hid (D = if FitsR r then (r, 0) else (zeroR, 1)) := hide (by
          rw [HW2.out]
          exact if_neg (fun h => h (by omega)))
        have hK' : ¬ (0 : Int) < (K.length : Int) := by omega
        clear hK HW2 HOK HLK
        obtain ⟨r0, f0⟩ := HAT.out.res.cell 0
        obtain ⟨r1, f1⟩ := HAT.out.res.cell 1
        obtain ⟨r2, f2⟩ := HAT.out.res.cell 2
        obtain ⟨r3, f3⟩ := HAT.out.res.cell 3
        obtain ⟨r4, f4⟩ := HAT.out.res.cell 4
        obtain ⟨r5, f5⟩ := HAT.out.res.cell 5
        obtain ⟨r6, f6⟩ := HAT.out.res.cell 6
        obtain ⟨b0, -⟩ := HAT.out.box.cell 0
        obtain ⟨b1, -⟩ := HAT.out.box.cell 1
        obtain ⟨b2, -⟩ := HAT.out.box.cell 2
        obtain ⟨b3, -⟩ := HAT.out.box.cell 3
        obtain ⟨b4, -⟩ := HAT.out.box.cell 4
        obtain ⟨b5, -⟩ := HAT.out.box.cell 5
        obtain ⟨b6, -⟩ := HAT.out.box.cell 6
        go_wp2
        refine bodyPost_ret (v := .tuple #[.agg #[.int .i64 r.idx, .int .i64 r.proc, .int .i64 r.seq, .int .i64 r.op.code, .int .i64 r.op.a, .int .i64 r.op.b, .int .i64 r.resp], .int .i64 0]) (by simp [results, Tryd.results103, go_sem, r0, r1, r2, r3, r4, r5, r6]) rfl ?_
        exact ⟨r, 0, rfl, .inr ⟨rfl, HE.out⟩, belowSeven' HAT.out.below w.heap.size (Nat.le_refl _) _ _ _ _ _ _ _⟩
      · have HE : Hid (D = (zeroR, 7)) := hide (by
          rw [HW2.out]
          exact if_pos (by omega))
        have hK' : (0 : Int) < (K.length : Int) := by omega
        clear hK HW2 HOK HLK
        obtain ⟨r0, f0⟩ := HAT.out.res.cell 0
        obtain ⟨r1, f1⟩ := HAT.out.res.cell 1
        obtain ⟨r2, f2⟩ := HAT.out.res.cell 2
        obtain ⟨r3, f3⟩ := HAT.out.res.cell 3
        obtain ⟨r4, f4⟩ := HAT.out.res.cell 4
        obtain ⟨r5, f5⟩ := HAT.out.res.cell 5
        obtain ⟨r6, f6⟩ := HAT.out.res.cell 6
        obtain ⟨b0, -⟩ := HAT.out.box.cell 0
        obtain ⟨b1, -⟩ := HAT.out.box.cell 1
        obtain ⟨b2, -⟩ := HAT.out.box.cell 2
        obtain ⟨b3, -⟩ := HAT.out.box.cell 3
        obtain ⟨b4, -⟩ := HAT.out.box.cell 4
        obtain ⟨b5, -⟩ := HAT.out.box.cell 5
        obtain ⟨b6, -⟩ := HAT.out.box.cell 6
        go_wp2
        refine bodyPost_ret (v := .tuple #[.agg #[.int .i64 r.idx, .int .i64 r.proc, .int .i64 r.seq, .int .i64 r.op.code, .int .i64 r.op.a, .int .i64 r.op.b, .int .i64 r.resp], .int .i64 7]) (by simp [results, Tryd.results103, go_sem, r0, r1, r2, r3, r4, r5, r6]) rfl ?_
        exact ⟨r, 7, rfl, .inl ⟨by decide, HE.out⟩, belowSeven' HAT.out.below w.heap.size (Nat.le_refl _) _ _ _ _ _ _ _⟩
    have hpos : (0 : Int) < (M.length : Int) := by
      have : M.length ≠ 0 := by simpa using hm
      omega
    have HG := hide (get_any (.slice a1 M.length c1) M wr (HRM.out.below HAT.out.below (Nat.le_refl _)))
    have HWS : Hid (D = finR v (stepV v M L F r (dec62 M).1 (dec62 M).2)) := hide (by rw [HW.out, walk_cons v M L F r hm])
    have hdl := dec62_le M
    have hf62 := dec62_lt M
    clear HW hm
    generalize (dec62 M).1 = f at *
    generalize (dec62 M).2 = d at *
    go_wp2_with fail
    refine HG.out.mono ?_
    rintro e W1 ⟨rfl, hw1⟩
    rw [hw1]
    clear HG hw1 W1
    by_cases hd0 : d = 0
    · have HE : Hid (D = (zeroR, 3)) := hide (by
        rw [HWS.out]
        unfold stepV
        rw [if_pos (.inl hd0)]
        rfl)
      subst hd0
      clear HWS HOK HLK HRM
      obtain ⟨r0, f0⟩ := HAT.out.res.cell 0
      obtain ⟨r1, f1⟩ := HAT.out.res.cell 1
      obtain ⟨r2, f2⟩ := HAT.out.res.cell 2
      obtain ⟨r3, f3⟩ := HAT.out.res.cell 3
      obtain ⟨r4, f4⟩ := HAT.out.res.cell 4
      obtain ⟨r5, f5⟩ := HAT.out.res.cell 5
      obtain ⟨r6, f6⟩ := HAT.out.res.cell 6
      obtain ⟨b0, -⟩ := HAT.out.box.cell 0
      obtain ⟨b1, -⟩ := HAT.out.box.cell 1
      obtain ⟨b2, -⟩ := HAT.out.box.cell 2
      obtain ⟨b3, -⟩ := HAT.out.box.cell 3
      obtain ⟨b4, -⟩ := HAT.out.box.cell 4
      obtain ⟨b5, -⟩ := HAT.out.box.cell 5
      obtain ⟨b6, -⟩ := HAT.out.box.cell 6
      go_wp2
      refine bodyPost_ret (v := .tuple #[.agg #[.int .i64 r.idx, .int .i64 r.proc, .int .i64 r.seq, .int .i64 r.op.code, .int .i64 r.op.a, .int .i64 r.op.b, .int .i64 r.resp], .int .i64 3]) (by simp [results, Tryd.results103, go_sem, r0, r1, r2, r3, r4, r5, r6]) rfl ?_
      exact ⟨r, 3, rfl, .inl ⟨by decide, HE.out⟩, belowSeven' HAT.out.below w.heap.size (Nat.le_refl _) _ _ _ _ _ _ _⟩
    have ed : ((d : Int) == 0) = false := beq_eq_false_iff_ne.2 (by omega)
    by_cases hfl : (f : Int) ≤ L
    · have HE : Hid (D = (zeroR, 3)) := hide (by
        rw [HWS.out]
        unfold stepV
        rw [if_pos (.inr hfl)]
        rfl)
      clear HWS HOK HLK HRM
      obtain ⟨r0, f0⟩ := HAT.out.res.cell 0
      obtain ⟨r1, f1⟩ := HAT.out.res.cell 1
      obtain ⟨r2, f2⟩ := HAT.out.res.cell 2
      obtain ⟨r3, f3⟩ := HAT.out.res.cell 3
      obtain ⟨r4, f4⟩ := HAT.out.res.cell 4
      obtain ⟨r5, f5⟩ := HAT.out.res.cell 5
      obtain ⟨r6, f6⟩ := HAT.out.res.cell 6
      obtain ⟨b0, -⟩ := HAT.out.box.cell 0
      obtain ⟨b1, -⟩ := HAT.out.box.cell 1
      obtain ⟨b2, -⟩ := HAT.out.box.cell 2
      obtain ⟨b3, -⟩ := HAT.out.box.cell 3
      obtain ⟨b4, -⟩ := HAT.out.box.cell 4
      obtain ⟨b5, -⟩ := HAT.out.box.cell 5
      obtain ⟨b6, -⟩ := HAT.out.box.cell 6
      go_wp2
      refine bodyPost_ret (v := .tuple #[.agg #[.int .i64 r.idx, .int .i64 r.proc, .int .i64 r.seq, .int .i64 r.op.code, .int .i64 r.op.a, .int .i64 r.op.b, .int .i64 r.resp], .int .i64 3]) (by simp [results, Tryd.results103, go_sem, r0, r1, r2, r3, r4, r5, r6]) rfl ?_
      exact ⟨r, 3, rfl, .inl ⟨by decide, HE.out⟩, belowSeven' HAT.out.below w.heap.size (Nat.le_refl _) _ _ _ _ _ _ _⟩
    have hlf : L < (f : Int) := by omega
    obtain ⟨a2, c2, hr2, hcut⟩ := cut_there w a1 M c1 HRM.out d hdl
    have HR2 := hide hr2
    have HST : Hid (stepV v M L F r f d = if hasV v f then (if (valueF r f (M.drop d)).2 = 0 then .error 3 else walkV v ((M.drop d).drop (valueF r f (M.drop d)).2) f (F + 1) (valueF r f (M.drop d)).1) else if f < 16 ∨ v = 3 then .error 7 else if passN (M.drop d) = 0 then .error 3 else walkV v ((M.drop d).drop (passN (M.drop d))) f F r) := hide (by
      unfold stepV
      rw [if_neg (by omega), List.drop_drop]
      by_cases hh : hasV v f
      · rw [if_pos hh, if_pos hh]
      · rw [if_neg hh, if_neg hh]
        by_cases h7 : f < 16 ∨ v = 3
        · rw [if_pos h7, if_pos h7]
        · rw [if_neg h7, if_neg h7]
          have hl2 : (M.drop d).length = M.length - d := List.length_drop
          unfold passN
          by_cases hp : (dec62 (M.drop d)).2 = 0 ∨ (M.drop d).length < (dec62 (M.drop d)).2 + (dec62 (M.drop d)).1
          · rw [if_pos hp, if_pos rfl, if_pos (by omega)]
          · rw [if_neg hp, if_neg (by omega), if_neg (by omega), List.drop_drop, ← Nat.add_assoc])
    rw [HST.out] at HWS
    have hl2 : (M.drop d).length < M.length := by rw [List.length_drop]; omega
    clear hr2 HST HRM
    generalize M.drop d = M2 at *
    have HRK := hide (fun q => (HOK.out.rd HLK.out.i64).below (below_drewN (Below.refl _ wr) q) (Nat.le_refl _))
    have HIX := hide (fun q => indexN_any _ K (f : Int) _ (HRK.out q))
    have HAQ := hide (fun q => HAT.out.drewN q)
    have HOQ := hide (fun q => HOK.out.below (below_drewN (Below.refl _ wr) q) (Nat.le_refl _))
    clear HRK HAT HOK
    by_cases hh : hasV v f
    · rw [if_pos hh] at HWS
      have hf1 : 1 ≤ f := by unfold hasV at hh; omega
      have hf5 : f ≤ 5 := by unfold hasV at hh; omega
      obtain ⟨hi, hpl⟩ := HLK.out.there hlf hh
      rw [hpl] at HIX
      have HLN := hide (HLK.out.strike hlf hi)
      have HGV := hide (fun W (hb : FldI w W r) => getValue_any _ M2 f hf1 hf5 r (w.heap.size + 1) W (HR2.out.below hb.below (Nat.le_refl _)) hb.box (by omega))
      have HVL := hide (valueF_le r f M2)
      generalize (valueF r f M2).2 = m at *
      generalize (valueF r f M2).1 = X at *
      generalize K.idxOf (f : Int) = i at *
      clear hh hpl hf1 hf5 HLK
      have hpl0 : (0 : Int) ≤ (i : Int) := by omega
      go_wp2
      go_quiet (fail)
      go_wp2_with fail
      refine (HIX.out _).mono ?_
      rintro e W2 ⟨rfl, hw2⟩
      have HA2 : Hid (FldI w W2 r) := hide (by rw [hw2]; exact HAQ.out _)
      have HO2 : Hid (OwnI W2 (w.heap.size + 1 + 1) (.slice a7 K.length c7) K) := hide (by rw [hw2]; exact HOQ.out _)
      clear hw2 HAQ HOQ HIX hcut
      go_wp2_with fail
      refine (HGV.out _ HA2.out).mono ?_
      rintro e W3 ⟨rfl, hx3, hb3⟩
      have HA3 := hide (HA2.out.set hx3 hb3)
      have HO3 := hide (HO2.out.but hb3 (fun b hb => by have := HO2.out.fresh b hb; omega))
      clear hx3 hb3 HA2 HO2 HGV
      have HDL := hide (fun I J hI hJ => deleteN_any _ K _ W3 HO3.out i (i + 1) (by omega) (by omega) I J hI hJ)
      go_wp2_with fail
      refine (HDL.out _ _ rfl (by go_num)).mono ?_
      rintro e W4 ⟨v4, rfl, ho4, hb4⟩
      have HA4 := hide (HA3.out.on hb4)
      have HO4 := hide ho4
      clear ho4 hb4 HA3 HO3 HDL
      generalize K.take i ++ K.drop (i + 1) = K2 at *
      by_cases hm0 : m = 0
      · have HE : Hid (D = (zeroR, 3)) := hide (by
          rw [HWS.out, if_pos hm0]
          rfl)
        subst hm0
        clear HWS HO4 HLN HR2
        obtain ⟨r0, f0⟩ := HA4.out.res.cell 0
        obtain ⟨r1, f1⟩ := HA4.out.res.cell 1
        obtain ⟨r2, f2⟩ := HA4.out.res.cell 2
        obtain ⟨r3, f3⟩ := HA4.out.res.cell 3
        obtain ⟨r4, f4⟩ := HA4.out.res.cell 4
        obtain ⟨r5, f5⟩ := HA4.out.res.cell 5
        obtain ⟨r6, f6⟩ := HA4.out.res.cell 6
        obtain ⟨b0, -⟩ := HA4.out.box.cell 0
        obtain ⟨b1, -⟩ := HA4.out.box.cell 1
        obtain ⟨b2, -⟩ := HA4.out.box.cell 2
        obtain ⟨b3, -⟩ := HA4.out.box.cell 3
        obtain ⟨b4, -⟩ := HA4.out.box.cell 4
        obtain ⟨b5, -⟩ := HA4.out.box.cell 5
        obtain ⟨b6, -⟩ := HA4.out.box.cell 6
        go_wp2
        refine bodyPost_ret (v := .tuple #[.agg #[.int .i64 X.idx, .int .i64 X.proc, .int .i64 X.seq, .int .i64 X.op.code, .int .i64 X.op.a, .int .i64 X.op.b, .int .i64 X.resp], .int .i64 3]) (by simp [results, Tryd.results103, go_sem, r0, r1, r2, r3, r4, r5, r6]) rfl ?_
        exact ⟨X, 3, rfl, .inl ⟨by decide, HE.out⟩, belowSeven' HA4.out.below w.heap.size (Nat.le_refl _) _ _ _ _ _ _ _⟩
      have em : ((m : Int) == 0) = false := beq_eq_false_iff_ne.2 (by omega)
      rw [if_neg hm0] at HWS
      obtain ⟨a3, c3, hr3, hcut3⟩ := cut_there w a2 M2 c2 HR2.out m HVL.out
      have HR3 := hide hr3
      have hl3 : (M2.drop m).length < M.length := by rw [List.length_drop]; omega
      clear hr3 HR2 HVL hm0
      generalize M2.drop m = M3 at *
      go_wp2
      go_roundw
      case rel => exact ⟨M3, K2, f, F + 1, X, a3, c3, rfl, rfl, by omega, HR3, HO4, HLN, HWS, HA4⟩
      case measure => simp [lenV]; omega
    · rw [if_neg hh] at HWS
      rw [HLK.out.none' hlf hh] at HIX
      have HLN := hide (HLK.out.pass hlf)
      clear hh HLK
      by_cases h16 : f < 16
      · have HE : Hid (D = (zeroR, 7)) := hide (by
          rw [HWS.out, if_pos (.inl h16)]
          rfl)
        have h16' : (f : Int) < 16 := by omega
        clear HWS h16 HLN
        go_wp2
        go_quiet (fail)
        go_wp2_with fail
        refine (HIX.out _).mono ?_
        rintro e W2 ⟨rfl, hw2⟩
        have HA2 : Hid (FldI w W2 r) := hide (by rw [hw2]; exact HAQ.out _)
        have HO2 : Hid (OwnI W2 (w.heap.size + 1 + 1) (.slice a7 K.length c7) K) := hide (by rw [hw2]; exact HOQ.out _)
        clear hw2 HAQ HOQ HIX hcut
        obtain ⟨r0, f0⟩ := HA2.out.res.cell 0
        obtain ⟨r1, f1⟩ := HA2.out.res.cell 1
        obtain ⟨r2, f2⟩ := HA2.out.res.cell 2
        obtain ⟨r3, f3⟩ := HA2.out.res.cell 3
        obtain ⟨r4, f4⟩ := HA2.out.res.cell 4
        obtain ⟨r5, f5⟩ := HA2.out.res.cell 5
        obtain ⟨r6, f6⟩ := HA2.out.res.cell 6
        obtain ⟨b0, -⟩ := HA2.out.box.cell 0
        obtain ⟨b1, -⟩ := HA2.out.box.cell 1
        obtain ⟨b2, -⟩ := HA2.out.box.cell 2
        obtain ⟨b3, -⟩ := HA2.out.box.cell 3
        obtain ⟨b4, -⟩ := HA2.out.box.cell 4
        obtain ⟨b5, -⟩ := HA2.out.box.cell 5
        obtain ⟨b6, -⟩ := HA2.out.box.cell 6
        go_wp2
        refine bodyPost_ret (v := .tuple #[.agg #[.int .i64 r.idx, .int .i64 r.proc, .int .i64 r.seq, .int .i64 r.op.code, .int .i64 r.op.a, .int .i64 r.op.b, .int .i64 r.resp], .int .i64 7]) (by simp [results, Tryd.results103, go_sem, r0, r1, r2, r3, r4, r5, r6]) rfl ?_
        exact ⟨r, 7, rfl, .inl ⟨by decide, HE.out⟩, belowSeven' HA2.out.below w.heap.size (Nat.le_refl _) _ _ _ _ _ _ _⟩
      have h16' : ¬ (f : Int) < 16 := by omega
      by_cases hv : v = 3
      · have HE : Hid (D = (zeroR, 7)) := hide (by
          rw [HWS.out, if_pos (.inr hv)]
          rfl)
        have hv' : ¬ (v : Int) < 3 := by omega
        clear HWS h16 HLN hv
        go_wp2
        go_quiet (fail)
        go_wp2_with fail
        refine (HIX.out _).mono ?_
        rintro e W2 ⟨rfl, hw2⟩
        have HA2 : Hid (FldI w W2 r) := hide (by rw [hw2]; exact HAQ.out _)
        have HO2 : Hid (OwnI W2 (w.heap.size + 1 + 1) (.slice a7 K.length c7) K) := hide (by rw [hw2]; exact HOQ.out _)
        clear hw2 HAQ HOQ HIX hcut
        obtain ⟨r0, f0⟩ := HA2.out.res.cell 0
        obtain ⟨r1, f1⟩ := HA2.out.res.cell 1
        obtain ⟨r2, f2⟩ := HA2.out.res.cell 2
        obtain ⟨r3, f3⟩ := HA2.out.res.cell 3
        obtain ⟨r4, f4⟩ := HA2.out.res.cell 4
        obtain ⟨r5, f5⟩ := HA2.out.res.cell 5
        obtain ⟨r6, f6⟩ := HA2.out.res.cell 6
        obtain ⟨b0, -⟩ := HA2.out.box.cell 0
        obtain ⟨b1, -⟩ := HA2.out.box.cell 1
        obtain ⟨b2, -⟩ := HA2.out.box.cell 2
        obtain ⟨b3, -⟩ := HA2.out.box.cell 3
        obtain ⟨b4, -⟩ := HA2.out.box.cell 4
        obtain ⟨b5, -⟩ := HA2.out.box.cell 5
        obtain ⟨b6, -⟩ := HA2.out.box.cell 6
        go_wp2
        refine bodyPost_ret (v := .tuple #[.agg #[.int .i64 r.idx, .int .i64 r.proc, .int .i64 r.seq, .int .i64 r.op.code, .int .i64 r.op.a, .int .i64 r.op.b, .int .i64 r.resp], .int .i64 7]) (by simp [results, Tryd.results103, go_sem, r0, r1, r2, r3, r4, r5, r6]) rfl ?_
        exact ⟨r, 7, rfl, .inl ⟨by decide, HE.out⟩, belowSeven' HA2.out.below w.heap.size (Nat.le_refl _) _ _ _ _ _ _ _⟩
      have hv' : (v : Int) < 3 := by omega
      rw [if_neg (by omega)] at HWS
      have HPO := hide (fun W (hb : FldI w W r) => passOver_any _ M2 W (HR2.out.below hb.below (Nat.le_refl _)) (by omega))
      have HPL := hide (passN_le M2)
      generalize passN M2 = p at *
      clear h16 hv
      go_wp2
      go_quiet (fail)
      go_wp2_with fail
      refine (HIX.out _).mono ?_
      rintro e W2 ⟨rfl, hw2⟩
      have HA2 : Hid (FldI w W2 r) := hide (by rw [hw2]; exact HAQ.out _)
      have HO2 : Hid (OwnI W2 (w.heap.size + 1 + 1) (.slice a7 K.length c7) K) := hide (by rw [hw2]; exact HOQ.out _)
      clear hw2 HAQ HOQ HIX hcut
      go_wp2_with fail
      refine (HPO.out _ HA2.out).mono ?_
      rintro e W3 ⟨rfl, hw3⟩
      rw [hw3]
      clear hw3 W3 HPO
      by_cases hm0 : p = 0
      · have HE : Hid (D = (zeroR, 3)) := hide (by
          rw [HWS.out, if_pos hm0]
          rfl)
        subst hm0
        clear HWS HO2 HLN HR2
        obtain ⟨r0, f0⟩ := HA2.out.res.cell 0
        obtain ⟨r1, f1⟩ := HA2.out.res.cell 1
        obtain ⟨r2, f2⟩ := HA2.out.res.cell 2
        obtain ⟨r3, f3⟩ := HA2.out.res.cell 3
        obtain ⟨r4, f4⟩ := HA2.out.res.cell 4
        obtain ⟨r5, f5⟩ := HA2.out.res.cell 5
        obtain ⟨r6, f6⟩ := HA2.out.res.cell 6
        obtain ⟨b0, -⟩ := HA2.out.box.cell 0
        obtain ⟨b1, -⟩ := HA2.out.box.cell 1
        obtain ⟨b2, -⟩ := HA2.out.box.cell 2
        obtain ⟨b3, -⟩ := HA2.out.box.cell 3
        obtain ⟨b4, -⟩ := HA2.out.box.cell 4
        obtain ⟨b5, -⟩ := HA2.out.box.cell 5
        obtain ⟨b6, -⟩ := HA2.out.box.cell 6
        go_wp2
        refine bodyPost_ret (v := .tuple #[.agg #[.int .i64 r.idx, .int .i64 r.proc, .int .i64 r.seq, .int .i64 r.op.code, .int .i64 r.op.a, .int .i64 r.op.b, .int .i64 r.resp], .int .i64 3]) (by simp [results, Tryd.results103, go_sem, r0, r1, r2, r3, r4, r5, r6]) rfl ?_
        exact ⟨r, 3, rfl, .inl ⟨by decide, HE.out⟩, belowSeven' HA2.out.below w.heap.size (Nat.le_refl _) _ _ _ _ _ _ _⟩
      have em : ((p : Int) == 0) = false := beq_eq_false_iff_ne.2 (by omega)
      rw [if_neg hm0] at HWS
      obtain ⟨a3, c3, hr3, hcut3⟩ := cut_there w a2 M2 c2 HR2.out p HPL.out
      have HR3 := hide hr3
      have hl3 : (M2.drop p).length < M.length := by rw [List.length_drop]; omega
      clear hr3 HR2 HPL hm0
      generalize M2.drop p = M3 at *
      go_wp2
      go_roundw
      case rel => exact ⟨M3, K, f, F, r, a3, c3, rfl, rfl, by omega, HR3, HO2, HLN, HWS, HA2⟩
      case measure => simp [lenV]; omega

end Go.Proofs.YtddhcohjmgdajaaDoor
