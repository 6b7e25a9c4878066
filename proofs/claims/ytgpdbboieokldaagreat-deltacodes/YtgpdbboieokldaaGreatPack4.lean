import Derived.Test.YtgpdbboieokldaaGreatPack1
import Derived.Test.YtgpdbboieokldaaGreatPack3
import Derived.Test.YtgpdbboieokldaaGreatPack2
import Derived.Deep.QuietTactic
import Derived.BigQuiet
import Derived.Laws.StructEq
/- Contracts of ferrymanref04: cut, find, without, with, pairs. -/
namespace Go.Proofs.YtgpdbboieokldaaGreat
open Go.RowKit

end Go.Proofs.YtgpdbboieokldaaGreat

/- Contract of ferrymanref04.pairs. -/
namespace Go.Proofs.YtgpdbboieokldaaGreat
open Go.RowKit

end Go.Proofs.YtgpdbboieokldaaGreat

/- Contracts of ferrymanref04: May. -/
namespace Go.Proofs.YtgpdbboieokldaaGreat
open Go.RowKit

end Go.Proofs.YtgpdbboieokldaaGreat

/- Contract of ferrymanref04: Fits. -/
namespace Go.Proofs.YtgpdbboieokldaaGreat
open Go.RowKit

end Go.Proofs.YtgpdbboieokldaaGreat

/- Contracts of ferrymanref04: Fits, Same. -/
namespace Go.Proofs.YtgpdbboieokldaaGreat
open Go.RowKit

end Go.Proofs.YtgpdbboieokldaaGreat

/- Contracts of ferrymanref09: Table, May, Same. -/
namespace Go.Proofs.YtgpdbboieokldaaGreat
open Go.RowKit

set_option maxRecDepth 100000 in
set_option maxHeartbeats 4000000 in
theorem refTable_any (v : Value) (l : List Ent) (w : World) (hr : RdE w v l) :
    Calls Tryz.prog 50 #[v] w fun e w' => e = .returned (.bool (decide (TabOk l))) ∧ Below w.heap.size w w' := by
  obtain ⟨ao, cap, rfl, hlc, hcm, -, -, hao⟩ := hr
  have hml : (l.length : Int) ≤ 9223372036854775807 := by unfold maxLen at hcm; omega
  have HAO := hide hao
  clear hao hlc hcm
  obtain ⟨D, hD⟩ : ∃ D, D = decide (TabOk l) := ⟨_, rfl⟩
  rw [← hD]
  have HDT : Hid (TabTo l l.length → D = true) := fun h => by rw [hD]; exact decide_eq_true h
  have HDF : Hid (∀ k, k ≤ l.length → ¬ TabTo l k → D = false) := fun k hk h => by rw [hD]; exact decide_eq_false (fun hf => h (TabTo.mono hf hk))
  have HP0 := hide (TabTo.zero l)
  clear hD
  go_enter Tryz.func50, Tryz.ntmps50
  go_wp2
  go_loopw [3] (fun vi wr => ∃ k : Nat, vi = .int .i64 (k : Int) ∧ k ≤ l.length ∧ Hid (TabTo l k) ∧ Hid (Below w.heap.size w wr)) (fun vi _ => l.length - (intOf vi).toNat)
  case atStart => exact ⟨0, rfl, Nat.zero_le _, HP0, Below.refl _ _⟩
  case round =>
    obtain ⟨k, rfl, hk, hP, hB⟩ := hrel
    by_cases hlt : k < l.length
    case neg =>
      obtain rfl : k = l.length := by omega
      have HT := hide (HDT.out hP.out)
      go_wp2
      go_ret
      rw [HT.out]
      exact ⟨rfl, hB.out⟩
    rcases HAO.out with h0 | ⟨c, off, rfl, hc⟩
    · rw [h0] at hlt; simp at hlt
    have hck := hc k hlt
    have hkc := hck.keep (hB.out.block c hck.lt)
    have hne1 : c ≠ wr.heap.size := by have := hkc.lt; omega
    obtain ⟨c0, c1, c2⟩ := hkc
    have HPN := hide (TabTo.next (t := l) (k := k))
    have HPV : Hid (0 < k → EntAt wr c (off + (k - 1) * 3) (l.getD (k - 1) zeroE)) := hide (fun h => (hc (k - 1) (by omega)).keep (hB.out.block c (hc (k - 1) (by omega)).lt))
    have HBA : Hid (∀ X, Below w.heap.size w (wr.alloc X)) := fun X => hB.out.alloc hB.out.size X
    have HDK : Hid (¬ TabTo l (k + 1) → D = false) := hide (HDF.out (k + 1) (by omega))
    have HX : Hid (∀ cs, Be (wr.alloc (.cells cs 48)) wr.heap.size cs) := fun cs => heap_alloc_new wr _
    obtain ⟨r, hr⟩ : ∃ r, r = l.getD k zeroE := ⟨_, rfl⟩
    rw [← hr] at HPN c0 c1 c2
    clear hc hck hr HDF
    obtain ⟨P, S, X⟩ := r
    dsimp only at HPN c0 c1 c2
    unfold EntOk at HPN
    dsimp only at HPN
    by_cases hp0 : P < 0
    · have HD := hide (HDK.out (fun h => by have := (HPN.out.1 h).2.1; omega))
      clear HPN HDK
      go_upto_region 5 with fail
      go_quiet (fail)
      go_wp2
      go_ret
      rw [HD.out]
      exact ⟨rfl, below_drewN (HBA.out _) _⟩
    have hp0d : decide (P < 0) = false := decide_eq_false hp0
    by_cases hp1 : 64 < P
    · have HD := hide (HDK.out (fun h => by have := (HPN.out.1 h).2.1; omega))
      clear HPN HDK
      go_upto_region 5 with fail
      go_quiet (fail)
      go_wp2
      go_ret
      rw [HD.out]
      exact ⟨rfl, below_drewN (HBA.out _) _⟩
    have hp1d : decide (64 < P) = false := decide_eq_false hp1
    by_cases hs0 : S < 0
    · have HD := hide (HDK.out (fun h => by have := (HPN.out.1 h).2.1; omega))
      clear HPN HDK
      go_upto_region 5 with fail
      go_quiet (fail)
      go_wp2
      go_ret
      rw [HD.out]
      exact ⟨rfl, below_drewN (HBA.out _) _⟩
    have hs0d : decide (S < 0) = false := decide_eq_false hs0
    by_cases hs1 : 4611686018427387904 ≤ S
    · have HD := hide (HDK.out (fun h => by have := (HPN.out.1 h).2.1; omega))
      clear HPN HDK
      go_upto_region 5 with fail
      go_quiet (fail)
      go_wp2
      go_ret
      rw [HD.out]
      exact ⟨rfl, below_drewN (HBA.out _) _⟩
    have hs1d : decide (4611686018427387904 ≤ S) = false := decide_eq_false hs1
    by_cases hx0 : X < -1125899906842624
    · have HD := hide (HDK.out (fun h => by have := (HPN.out.1 h).2.1; omega))
      clear HPN HDK
      go_upto_region 5 with fail
      go_quiet (fail)
      go_wp2
      go_ret
      rw [HD.out]
      exact ⟨rfl, below_drewN (HBA.out _) _⟩
    have hx0d : decide (X < -1125899906842624) = false := decide_eq_false hx0
    by_cases hx1 : 1125899906842624 < X
    · have HD := hide (HDK.out (fun h => by have := (HPN.out.1 h).2.1; omega))
      clear HPN HDK
      go_upto_region 5 with fail
      go_quiet (fail)
      go_wp2
      go_ret
      rw [HD.out]
      exact ⟨rfl, below_drewN (HBA.out _) _⟩
    have hx1d : decide (1125899906842624 < X) = false := decide_eq_false hx1
    have HEO : Hid (0 ≤ P ∧ P ≤ 64 ∧ 0 ≤ S ∧ S < 4611686018427387904 ∧ -1125899906842624 ≤ X ∧ X ≤ 1125899906842624) := hide ⟨by omega, by omega, by omega, by omega, by omega, by omega⟩
    clear hp0 hp1 hs0 hs1 hx0 hx1
    by_cases hk0 : k = 0
    · have HP1 := hide (HPN.out.2 ⟨hP.out, HEO.out, fun h => absurd h (by omega)⟩)
      have hkd : decide (0 < k) = false := decide_eq_false (by omega)
      have hki : decide ((0 : Int) < (k : Int)) = false := decide_eq_false (by omega)
      clear HPN HDK HPV hk0
      go_upto_region 5 with fail
      go_quiet (fail)
      go_wp2
      go_roundw
      case rel => exact ⟨k + 1, by go_num, by omega, HP1, below_drewN (HBA.out _) _⟩
      case measure => simp [intOf]; omega
    · obtain ⟨q, rfl⟩ : ∃ q, k = q + 1 := ⟨k - 1, by omega⟩
      clear hk0
      have hpw := HPV.out (by omega)
      have hpv : ∀ X, (wr.alloc X).cell? ⟨c, off + (q + 1 - 1) * 3, none⟩ = some (.int .i64 (l.getD (q + 1 - 1) zeroE).proc) := fun X => (hpw.keep (Below.heap_alloc _ _ _ hpw.lt)).1
      clear hpw
      rw [Nat.add_sub_cancel] at hpv HPN
      have hqi : ((q + 1 : Nat) : Int) - 1 = (q : Int) := by omega
      have hql : (q : Int) < (l.length : Int) := by omega
      have hq0 : (0 : Int) < ((q + 1 : Nat) : Int) := by omega
      clear HPV
      generalize (l.getD q zeroE).proc = P0 at *
      by_cases hge : P ≤ P0
      · have HD := hide (HDK.out (fun h => by have := (HPN.out.1 h).2.2 (by omega); omega))
        clear HPN HDK
        go_upto_region 5 with fail
        go_quiet (fail)
        go_wp2
        go_ret
        rw [HD.out]
        exact ⟨rfl, below_drewN (HBA.out _) _⟩
      · have hged : decide (P ≤ P0) = false := decide_eq_false hge
        have HP1 := hide (HPN.out.2 ⟨hP.out, HEO.out, fun _ => by omega⟩)
        clear HPN HDK hge
        go_upto_region 5 with fail
        go_quiet (fail)
        go_wp2
        go_roundw
        case rel => exact ⟨q + 1 + 1, by go_num, by omega, HP1, below_drewN (HBA.out _) _⟩
        case measure => simp [intOf]; omega

end Go.Proofs.YtgpdbboieokldaaGreat

/- Entries held against each other, number by number. -/
namespace Go.Proofs.YtgpdbboieokldaaGreat
open Go.RowKit

/-- Two entries, number by number. -/
def eqEnt (r s : Ent) : Bool := r.proc == s.proc && r.seq == s.seq && r.resp == s.resp

theorem eql_ent (w : World) (r s : Ent) : (binOp .eql 48 (.agg #[.int .i64 r.proc, .int .i64 r.seq, .int .i64 r.resp]) (.agg #[.int .i64 s.proc, .int .i64 s.seq, .int .i64 s.resp])).run Tryz.prog w = .ok (.bool (eqEnt r s)) w := by
  have u3 := Tryz.underlying3
  have a3 := Tryz.isAgg3
  have z3 := Tryz.sizeOf3
  have hS : Tryz.prog.underlying 48 = some (.struct (Tryz.prog.fieldsOf 48)) := by kernel_rfl
  have hp : Tryz.prog.stoodInHeld 48 = false := by kernel_rfl
  unfold eqEnt
  rw [run_eql_struct, show (10000 : Nat) = 9999 + 1 from rfl, run_equalIn_agg w 9999 48 _ _ hS hp]
  simp only [Program.fieldsOf, Tryz.underlying48]
  go_simp
  repeat' split
  all_goals simp_all

theorem neq_ent (w : World) (r s : Ent) : (binOp .neq 48 (.agg #[.int .i64 r.proc, .int .i64 r.seq, .int .i64 r.resp]) (.agg #[.int .i64 s.proc, .int .i64 s.seq, .int .i64 s.resp])).run Tryz.prog w = .ok (.bool (!eqEnt r s)) w := by
  have u3 := Tryz.underlying3
  have a3 := Tryz.isAgg3
  have z3 := Tryz.sizeOf3
  have hS : Tryz.prog.underlying 48 = some (.struct (Tryz.prog.fieldsOf 48)) := by kernel_rfl
  have hp : Tryz.prog.stoodInHeld 48 = false := by kernel_rfl
  unfold eqEnt
  rw [run_neq_struct, show (10000 : Nat) = 9999 + 1 from rfl, run_equalIn_agg w 9999 48 _ _ hS hp]
  simp only [Program.fieldsOf, Tryz.underlying48]
  go_simp
  repeat' split
  all_goals simp_all

theorem guard_ent : Tryz.prog.eqGuardType Tryz.prog.depth 48 = false := by kernel_rfl

theorem eqEnt_iff (r s : Ent) : eqEnt r s = true ↔ r = s := by
  obtain ⟨i, p, q⟩ := r
  obtain ⟨i', p', q'⟩ := s
  simp [eqEnt]
  constructor
  · rintro ⟨⟨rfl, rfl⟩, rfl⟩
    simp
  · rintro ⟨rfl, rfl, rfl⟩
    simp

theorem eqEnt_self (r : Ent) : eqEnt r r = true := (eqEnt_iff r r).2 rfl

theorem eqEnt_not {r s : Ent} (h : r ≠ s) : eqEnt r s = false := by
  cases hq : eqEnt r s
  · rfl
  · exact absurd ((eqEnt_iff _ _).1 hq) h

end Go.Proofs.YtgpdbboieokldaaGreat

/- Contracts of ferrymanref09: May, Same. -/
namespace Go.Proofs.YtgpdbboieokldaaGreat
open Go.RowKit

/-- A box of a snapshot. -/
def Bn (w : World) (b : Nat) (cs : Array Value) : Prop := w.heap[b]? = some (.cells cs 39 (0, 0))

theorem Bn.lt {w : World} {b : Nat} {cs : Array Value} (h : Bn w b cs) : b < w.heap.size := (Array.getElem?_eq_some_iff.1 h).1

theorem Bn.below {w w' : World} {b B : Nat} {cs : Array Value} (h : Bn w b cs) (hb : Below B w w') (hB : w.heap.size ≤ B) : Bn w' b cs := (hb.block b (by have := h.lt; omega)).trans h

theorem Bn.cell {w : World} {b : Nat} {cs : Array Value} (h : Bn w b cs) (j : Nat) : w.cell? ⟨b, j, none⟩ = cs[j]? ∧ w.frozen? ⟨b, j, none⟩ = false := ⟨cell_of_row w b j _ _ _ h, frozen_of_row w b j _ _ h⟩

theorem mayN_parts (s : Snap) : MayN s ↔ MayS s.st ∧ TabOk s.tab ∧ 0 ≤ s.idx ∧ s.idx < 4611686018427387904 := by
  unfold MayN
  constructor
  · rintro ⟨⟨h1, h2⟩, h3, h4⟩
    exact ⟨h3, h4, h1, h2⟩
  · rintro ⟨h3, h4, h1, h2⟩
    exact ⟨⟨h1, h2⟩, h3, h4⟩

theorem new_two (w : World) (X Y : Obj) : ((w.alloc X).alloc Y).heap[w.heap.size + 1]? = some Y := by
  have h := heap_alloc_new (w.alloc X) Y
  have e : (w.alloc X).heap.size = w.heap.size + 1 := by simp
  rw [e] at h
  exact h

/-- Are two snapshots the same? -/
def SameN (a b : Snap) : Prop := SameS a.st b.st ∧ a.idx = b.idx ∧ a.tab = b.tab

instance (a b : Snap) : Decidable (SameN a b) := by unfold SameN; infer_instance

theorem takeE_snoc {l : List Ent} {q : Nat} (h : q < l.length) : l.take (q + 1) = l.take q ++ [l.getD q zeroE] := by
  rw [List.take_add_one]
  simp [List.getD, h]

end Go.Proofs.YtgpdbboieokldaaGreat

