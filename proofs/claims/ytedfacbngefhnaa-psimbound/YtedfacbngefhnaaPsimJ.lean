/- The engine that copies: an operation begins. -/
import Derived.Test.YtedfacbngefhnaaPsimH
namespace Go.Proofs.Ytedfacbngefhnaa
open Go.RowKit Go.Maps

/-- What a beginning leaves. -/
def BegDid (w : World) (eb : Nat) (L : HL) (x : Nat → Value) (e : Eg) (p : Nat) (o : Opn) (M : Mc) (N : Nat) (w' : World) : Prop :=
  EgL w' eb L (putN x p (nxV (L.qs p) .announce)) (beginE e p o) M N ∧ Only (HasE eb L e.n) w w'

theorem run_store_func (w : World) (a : Addr) (fn : Fn) (c0 c1 : Array Value) (m : Mode) : (store a (.func fn c0 c1) m).run Try.prog w = stored Try.prog w a (.func fn c0 c1) m := run_store Try.prog w a _ m rfl

theorem run_store_nilFunc (w : World) (a : Addr) (m : Mode) : (store a .nilFunc m).run Try.prog w = stored Try.prog w a .nilFunc m := run_store Try.prog w a _ m rfl

set_option maxRecDepth 100000 in
set_option maxHeartbeats 4000000 in
theorem beginP_any {w : World} {eb : Nat} {L : HL} {x : Nat → Value} {e : Eg} {M : Mc} {N p : Nat} (h : EgL w eb L x e M N) (hp : p < e.n) (F : FitE e N) (hN : N ≤ 150000) (o : Opn) :
    Calls Try.prog 32 #[ptr (L.qs p), opV o] w fun r w' => r = .returned (.tuple #[]) ∧ BegDid w eb L x e p o M N w' := by
  have hmf : ∀ (fn : Fn) (first cap : Array Value) (w : World), (Instr.makeFunc fn first cap).run Try.prog w = .ok (.func fn first cap) w := fun _ _ _ _ => rfl
  have hsf := run_store_func
  have hn := F.n
  have hsq := F.seq p hp
  obtain ⟨co, oa, ob⟩ := o
  obtain ⟨P, hP⟩ : ∃ P : Int, P = (p : Int) := ⟨_, rfl⟩
  obtain ⟨S, hS⟩ : ∃ S : Int, S = ((e.ps p).seq : Int) := ⟨_, rfl⟩
  obtain ⟨D, hD⟩ : ∃ D : Int, D = ((e.ps p).did : Int) := ⟨_, rfl⟩
  have hS1 : (((e.ps p).seq + 1 : Nat) : Int) = S + 1 := by omega
  have hbx : Below w.heap.size w (w.alloc (.cells #[.int .i64 co, .int .i64 oa, .int .i64 ob] 26)) := (Below.refl _ _).alloc (Nat.le_refl _) _
  obtain ⟨W0, hW0⟩ : ∃ W0, W0 = w.alloc (.cells #[.int .i64 co, .int .i64 oa, .int .i64 ob] 26) := ⟨_, rfl⟩
  have hxb : Bk 26 W0 w.heap.size #[.int .i64 co, .int .i64 oa, .int .i64 ob] := by rw [hW0]; exact heap_alloc_new _ _
  rw [← hW0] at hbx
  have hqB : L.qs p ≠ w.heap.size := by have := (h.pr p hp).lt; omega
  have h0 := h.below hbx
  have hq0 := h0.pr p hp
  have q4 := hq0.set 4 (.int .i64 (S + 1))
  obtain ⟨W1, hW1⟩ : ∃ W1, W1 = W0.setCell ⟨L.qs p, 4, none⟩ (.int .i64 (S + 1)) := ⟨_, rfl⟩
  have hx1 : Bk 26 W1 w.heap.size #[.int .i64 co, .int .i64 oa, .int .i64 ob] := by rw [hW1]; exact hxb.other _ _ _ hqB.symm
  rw [← hW1] at q4
  have q7 := ((q4.set 5 (.int .i64 co)).set 6 (.int .i64 oa)).set 7 (.int .i64 ob)
  obtain ⟨W2, hW2⟩ : ∃ W2, W2 = ((W1.setCell ⟨L.qs p, 5, none⟩ (.int .i64 co)).setCell ⟨L.qs p, 6, none⟩ (.int .i64 oa)).setCell ⟨L.qs p, 7, none⟩ (.int .i64 ob) := ⟨_, rfl⟩
  rw [← hW2] at q7
  have o2 : Only (fun k => k = L.qs p) W0 W2 := by
    rw [hW2, hW1]
    exact ((((Only.refl (fun k => k = L.qs p) W0).setCell 4 (fun _ => rfl) _).setCell 5 (fun _ => rfl) _).setCell 6 (fun _ => rfl) _).setCell 7 (fun _ => rfl) _
  have K2 := h0.keeps (T := fun t => t = 5) o2 fun k g => .inl ⟨5, rfl, p, hp, g⟩
  have q7d : Bk 71 W2.drew (L.qs p) _ := q7.keep rfl
  have q3 := q7d.set 3 (.int .i64 D)
  have l2 := K2.list (by decide)
  have l2d : Bk 76 W2.drew L.l (lsC e.n L.m L.sv L.av L.fv L.ov L.lv e.st) := l2.keep rfl
  have HC : Hid (Calls Try.prog 29 #[ptr L.m, .int .i64 P] W2.drew fun r w' => r = .returned (.int .i64 D) ∧ w' = W2.drew) := hide (by
    have hm : MacL W2.drew L.m L.mc L.ms M N := (K2.mac (by decide) (by decide) (by decide)).keep rfl rfl rfl
    have := stepsM_any hm (p : Int) (i64_nat (by omega))
    rw [h.rel.s p hp, ← hP, ← hD] at this
    exact this)
  have HEND : Hid (∀ j, BegDid w eb L x e p ⟨co, oa, ob⟩ M N (((W2.drew.setCell ⟨L.qs p, 3, none⟩ (.int .i64 D)).drewN j).setCell ⟨L.qs p, 2, none⟩ (.func (.func 38) #[ptr (L.qs p)] #[]))) := hide fun j => by
    have hnx : nxV (L.qs p) .announce = .func (.func 38) #[ptr (L.qs p)] #[] := by rw [nxV_ne _ (by nofun)]; rfl
    have q3d : Bk 71 ((W2.drew.setCell ⟨L.qs p, 3, none⟩ (.int .i64 D)).drewN j) (L.qs p) _ := q3.keep rfl
    have q2 := q3d.set 2 (nxV (L.qs p) .announce)
    have o3 : Only (fun k => k = L.qs p) W0 (((W2.drew.setCell ⟨L.qs p, 3, none⟩ (.int .i64 D)).drewN j).setCell ⟨L.qs p, 2, none⟩ (nxV (L.qs p) .announce)) := (((o2.drewN 1).setCell 3 (fun _ => rfl) _).drewN j).setCell 2 (fun _ => rfl) _
    have g := h0.procd (q' := { e.ps p with nx := .announce, seq := (e.ps p).seq + 1, op := ⟨co, oa, ob⟩, began := (e.ps p).did }) (x' := putN x p (nxV (L.qs p) .announce)) hp o3 (fun _ k => .inl k) (mv' := L.mv) (ma' := L.ma) (mf' := L.mf) (by
      rw [putN_same]
      rw [hD, ← hS1] at q2
      rw [hD]
      exact q2) (fun r hr => putN_other _ _ hr) (fun _ _ => ⟨rfl, rfl, rfl⟩) rfl (fun _ => ⟨rfl, rfl, rfl, rfl, rfl, rfl⟩)
    rw [hnx] at g o3
    refine ⟨by rw [hnx]; exact g, (Only.ofBelow (F := HasE eb L e.n) hbx).trans o3 fun k _ hk => by rw [hk]; exact has_q eb L hp⟩
  have c4 : W0.cell? ⟨L.qs p, 4, none⟩ = some (.int .i64 S) := by rw [hS]; exact (hq0.cell 4 rfl).1
  have f4 : W0.frozen? ⟨L.qs p, 4, none⟩ = false := (hq0.cell 4 rfl).2
  obtain ⟨y0, -⟩ := hx1.cell 0 rfl
  obtain ⟨y1, -⟩ := hx1.cell 1 rfl
  obtain ⟨y2, -⟩ := hx1.cell 2 rfl
  obtain ⟨c5, f5⟩ := q4.cell 5 rfl
  obtain ⟨c6, f6⟩ := q4.cell 6 rfl
  obtain ⟨c7, f7⟩ := q4.cell 7 rfl
  have HS0 : Hid (W2.drew.cell? ⟨L.qs p, 1, none⟩ = some (ptr L.l) ∧ W2.drew.cell? ⟨L.qs p, 0, none⟩ = some (.int .i64 P) ∧ W2.drew.cell? ⟨L.l, 1, none⟩ = some (ptr L.m)) := hide (by
    rw [hP]
    exact ⟨(q7d.cell 1 rfl).1, (q7d.cell 0 rfl).1, (l2d.cell 1 rfl).1⟩)
  have HS3 : Hid ((W2.drew.setCell ⟨L.qs p, 3, none⟩ (.int .i64 D)).cell? ⟨L.qs p, 1, none⟩ = some (ptr L.l) ∧ (W2.drew.setCell ⟨L.qs p, 3, none⟩ (.int .i64 D)).cell? ⟨L.qs p, 0, none⟩ = some (.int .i64 P) ∧ (W2.drew.setCell ⟨L.qs p, 3, none⟩ (.int .i64 D)).cell? ⟨L.l, 1, none⟩ = some (ptr L.m)) := hide (by
    have l3 := l2d.other (L.qs p) 3 (.int .i64 D) (l2d.ne q7d (by decide))
    rw [hP]
    exact ⟨(q3.cell 1 rfl).1, (q3.cell 0 rfl).1, (l3.cell 1 rfl).1⟩)
  have HF3 : Hid (W2.drew.frozen? ⟨L.qs p, 3, none⟩ = false ∧ ∃ z, W2.drew.cell? ⟨L.qs p, 3, none⟩ = some z) := hide ⟨(q7d.cell 3 rfl).2, _, (q7d.cell 3 rfl).1⟩
  have HF2 : Hid (∀ j, ((W2.drew.setCell ⟨L.qs p, 3, none⟩ (.int .i64 D)).drewN j).frozen? ⟨L.qs p, 2, none⟩ = false ∧ ∃ z, ((W2.drew.setCell ⟨L.qs p, 3, none⟩ (.int .i64 D)).drewN j).cell? ⟨L.qs p, 2, none⟩ = some z) := hide fun j => by
    have q3d : Bk 71 ((W2.drew.setCell ⟨L.qs p, 3, none⟩ (.int .i64 D)).drewN j) (L.qs p) _ := q3.keep rfl
    exact ⟨(q3d.cell 2 rfl).2, _, (q3d.cell 2 rfl).1⟩
  have hw : IntKind.i64.wrap (S + 1) = S + 1 := wrap_lit _ (by omega) (by omega)
  have HW0 := hide hW0
  have HW1 := hide hW1
  have HW2 := hide hW2
  obtain ⟨s1, s0, sl⟩ := HS0.out
  obtain ⟨f3, z3, c3⟩ := HF3.out
  have s1' : W2.cell? ⟨L.qs p, 1, none⟩ = some (ptr L.l) := s1
  have s0' : W2.cell? ⟨L.qs p, 0, none⟩ = some (.int .i64 P) := s0
  have sl' : W2.cell? ⟨L.l, 1, none⟩ = some (ptr L.m) := sl
  have f3' : W2.frozen? ⟨L.qs p, 3, none⟩ = false := f3
  have c3' : W2.cell? ⟨L.qs p, 3, none⟩ = some z3 := c3
  generalize L.qs p = q at *
  generalize L.l = l at *
  generalize L.m = m at *
  unfold opV
  clear h F hn hsq hP hS hD hS1 hbx hW0 hxb hqB h0 hq0 q4 hW1 hx1 q7 hW2 o2 K2 q7d q3 l2 l2d hp hN
  go_enter Try.func32, Try.ntmps32
  go_upto_region 1 with fail
  rw [← HW0.out]
  go_upto_region 2 with fail
  rw [← HW1.out]
  go_upto_region 3 with fail
  rw [← HW2.out]
  clear c4 f4 y0 y1 y2 c5 f5 c6 f6 c7 f7
  go_region_held (fun W => W.cell? ⟨q, 1, none⟩ = some (ptr l) ∧ W.cell? ⟨q, 0, none⟩ = some (.int .i64 P) ∧ W.cell? ⟨l, 1, none⟩ = some (ptr m))
    (first | (with_reducible exact HS0.out) | (with_reducible exact HS3.out) | exact HS3.out)
    (first | (go_at_call 29; refine (HC.out).mono ?_; rintro r W' ⟨rfl, rfl⟩))
  all_goals
    go_upto_region 4 with fail
    have HE := hide (HEND.out 0)
    obtain ⟨r2, z2, u2⟩ := HF2.out 0
    obtain ⟨W3, hW3⟩ : ∃ W3, W3 = (W2.setCell ⟨q, 3, none⟩ (.int .i64 D)).drew := ⟨_, rfl⟩
    have hW3' : (W2.drew.setCell ⟨q, 3, none⟩ (.int .i64 D)).drewN 0 = W3 := by rw [hW3]; rfl
    rw [hW3'] at r2 u2 HE
    rw [← hW3]
    clear s1 s0 sl f3 c3 s1' s0' sl' f3' c3' hW3 hW3'
    go_wp2
    go_end0
    exact ⟨rfl, HE.out⟩

end Go.Proofs.Ytedfacbngefhnaa
