/- Contract of ferrymanref06: value. -/
import Derived.Test.YtonibpnhhdjklaaDoorRef06A
import Derived.Test.YtonibpnhhdjklaaDoorRef01Get
namespace Go.Proofs.YtonibpnhhdjklaaDoor
open Go.RowKit

theorem Below.allocs {a w : World} (h : Below a.heap.size a w) (X : Obj) : Below a.heap.size a (w.alloc X) := h.alloc h.size X

set_option maxRecDepth 100000 in
set_option maxHeartbeats 1000000 in
theorem refValue_any (r : Rec) (f : Nat) (hf : 1 ≤ f ∧ f ≤ 5) (v : Value) (l : List UInt8) (w : World) (hr : Rd w v l) :
    Calls Tryd.prog 32 #[recV r, .int .i64 (f : Int), v] w fun e w' => e = .returned (.tuple #[recV (valueF r f l).1, .int .i64 ((valueF r f l).2 : Nat)]) ∧ Below w.heap.size w w' := by
  obtain ⟨idx, proc, seq, ⟨code, a, b⟩, resp⟩ := r
  show Calls Tryd.prog _ #[.agg #[.int .i64 idx, .int .i64 proc, .int .i64 seq, .int .i64 code, .int .i64 a, .int .i64 b, .int .i64 resp], _, _] w _
  have HB0 : Hid (∀ X Y, Below w.heap.size w ((w.alloc X).alloc Y)) := fun X Y => ((Below.refl _ _).alloc (Nat.le_refl _) X).alloc (by simp) Y
  have HR := hide (fun X Y => hr.below (HB0.out X Y) (Nat.le_refl _))
  have HG : Hid (∀ W, Rd W v l → Calls Tryd.prog 31 #[v] W fun e w' => e = .returned (.tuple #[.int .i64 ((dec62 l).1 : Nat), .int .i64 ((dec62 l).2 : Nat)]) ∧ w' = W) := fun W h => refGet_any v l W h
  have HS : Hid (∀ W, Rd W v l → Calls Tryd.prog 49 #[v] W fun e w' => e = .returned (.tuple #[.int .i64 (zag (dec64 l).1), .int .i64 ((dec64 l).2 : Nat)]) ∧ w' = W) := fun W h => refGetSigned_any v l W h
  have HO : Hid (∀ W, Rd W v l → Calls Tryd.prog 48 #[v] W fun e w' => e = .returned (.tuple #[.agg #[.int .i64 (getOpL l).1.code, .int .i64 (getOpL l).1.a, .int .i64 (getOpL l).1.b], .int .i64 ((getOpL l).2 : Nat)]) ∧ Below W.heap.size W w') := fun W h => refGetOp_any v l W h
  unfold valueF
  generalize (dec62 l).1 = n at *
  generalize (dec62 l).2 = k at *
  generalize zag (dec64 l).1 = x at *
  generalize (dec64 l).2 = m at *
  obtain ⟨⟨oc, oa, ob⟩, ho⟩ : ∃ o, o = (getOpL l).1 := ⟨_, rfl⟩
  rw [← ho] at HO ⊢
  clear ho
  generalize (getOpL l).2 = j at *
  clear hr
  have hc : f = 1 ∨ f = 2 ∨ f = 3 ∨ f = 4 ∨ f = 5 := by omega
  clear hf
  simp only at HO
  rcases hc with rfl | rfl | rfl | rfl | rfl
  · show Calls Tryd.prog _ _ w fun e w' => e = .returned (.tuple #[.agg #[.int .i64 n, .int .i64 proc, .int .i64 seq, .int .i64 code, .int .i64 a, .int .i64 b, .int .i64 resp], .int .i64 k]) ∧ Below w.heap.size w w'
    go_enter Tryd.func32, Tryd.ntmps32
    go_wp2_with fail
    refine (HG.out _ (HR.out _ _)).mono ?_
    rintro e W1 ⟨rfl, rfl⟩
    go_wp2
    exact bodyPost_ret (v := .tuple #[.agg #[.int .i64 n, .int .i64 proc, .int .i64 seq, .int .i64 code, .int .i64 a, .int .i64 b, .int .i64 resp], .int .i64 k]) (by simp [results, Tryd.results32, go_sem]) rfl ⟨rfl, HB0.out _ _⟩
  · go_enter Tryd.func32, Tryd.ntmps32
    go_wp2_with fail
    refine (HG.out _ (HR.out _ _)).mono ?_
    rintro e W1 ⟨rfl, rfl⟩
    go_wp2
    exact bodyPost_ret (v := .tuple #[.agg #[.int .i64 idx, .int .i64 n, .int .i64 seq, .int .i64 code, .int .i64 a, .int .i64 b, .int .i64 resp], .int .i64 k]) (by simp [results, Tryd.results32, go_sem]) rfl ⟨rfl, HB0.out _ _⟩
  · go_enter Tryd.func32, Tryd.ntmps32
    go_wp2_with fail
    refine (HG.out _ (HR.out _ _)).mono ?_
    rintro e W1 ⟨rfl, rfl⟩
    go_wp2
    exact bodyPost_ret (v := .tuple #[.agg #[.int .i64 idx, .int .i64 proc, .int .i64 n, .int .i64 code, .int .i64 a, .int .i64 b, .int .i64 resp], .int .i64 k]) (by simp [results, Tryd.results32, go_sem]) rfl ⟨rfl, HB0.out _ _⟩
  · show Calls Tryd.prog _ _ w fun e w' => e = .returned (.tuple #[.agg #[.int .i64 idx, .int .i64 proc, .int .i64 seq, .int .i64 oc, .int .i64 oa, .int .i64 ob, .int .i64 resp], .int .i64 j]) ∧ Below w.heap.size w w'
    have X1 : Hid (∀ cs Y, Br ((w.alloc (.cells cs 25)).alloc Y) w.heap.size cs) := fun cs Y => (Below.heap_alloc _ _ _ (by simp)).trans (heap_alloc_new w _)
    have X2 : Hid (∀ X cs, Br ((w.alloc X).alloc (.cells cs 25)) (w.heap.size + 1) cs) := fun X cs => two_new w X _
    go_enter Tryd.func32, Tryd.ntmps32
    go_wp2_with fail
    refine (HG.out _ (HR.out _ _)).mono ?_
    rintro e W1 ⟨rfl, rfl⟩
    go_wp2_with fail
    refine (HO.out _ (HR.out _ _)).mono ?_
    rintro e W2 ⟨rfl, hb2⟩
    have HX1 := hide ((X1.out _ _).below hb2 (Nat.le_refl _))
    have HX2 := hide ((X2.out _ _).below hb2 (Nat.le_refl _))
    have HB2 := hide ((HB0.out _ _).trans (hb2.mono (HB0.out _ _).size))
    clear hb2 X1 X2 HB0 HR
    have l0 := HX1.out.lt
    have l1 := HX2.out.lt
    obtain ⟨q0, p0⟩ := HX1.out.cell 0
    obtain ⟨q1, p1⟩ := HX1.out.cell 1
    obtain ⟨q2, p2⟩ := HX1.out.cell 2
    obtain ⟨q3, p3⟩ := HX1.out.cell 3
    obtain ⟨q4, p4⟩ := HX1.out.cell 4
    obtain ⟨q5, p5⟩ := HX1.out.cell 5
    obtain ⟨q6, p6⟩ := HX1.out.cell 6
    obtain ⟨r0, s0⟩ := HX2.out.cell 0
    obtain ⟨r1, s1⟩ := HX2.out.cell 1
    obtain ⟨r2, s2⟩ := HX2.out.cell 2
    obtain ⟨r3, s3⟩ := HX2.out.cell 3
    obtain ⟨r4, s4⟩ := HX2.out.cell 4
    obtain ⟨r5, s5⟩ := HX2.out.cell 5
    obtain ⟨r6, s6⟩ := HX2.out.cell 6
    go_wp2
    refine bodyPost_ret (v := .tuple #[.agg #[.int .i64 idx, .int .i64 proc, .int .i64 seq, .int .i64 oc, .int .i64 oa, .int .i64 ob, .int .i64 resp], .int .i64 j]) (by simp [results, Tryd.results32, go_sem, l1, r0, r1, r2, r3, r4, r5, r6]) rfl ⟨rfl, ?_⟩
    refine Below.allocs ?_ _
    exact ((((((((((HB2.out.setCell (Nat.le_refl _) _).setCell (Nat.le_refl _) _).setCell (Nat.le_refl _) _).setCell (Nat.le_succ _) _).setCell (Nat.le_succ _) _).setCell (Nat.le_succ _) _).setCell (Nat.le_succ _) _).setCell (Nat.le_succ _) _).setCell (Nat.le_succ _) _).setCell (Nat.le_succ _) _)
  · go_enter Tryd.func32, Tryd.ntmps32
    go_wp2_with fail
    refine (HG.out _ (HR.out _ _)).mono ?_
    rintro e W1 ⟨rfl, rfl⟩
    go_wp2_with fail
    refine (HS.out _ (HR.out _ _)).mono ?_
    rintro e W1 ⟨rfl, rfl⟩
    go_wp2
    exact bodyPost_ret (v := .tuple #[.agg #[.int .i64 idx, .int .i64 proc, .int .i64 seq, .int .i64 code, .int .i64 a, .int .i64 b, .int .i64 x], .int .i64 m]) (by simp [results, Tryd.results32, go_sem]) rfl ⟨rfl, HB0.out _ _⟩

end Go.Proofs.YtonibpnhhdjklaaDoor
