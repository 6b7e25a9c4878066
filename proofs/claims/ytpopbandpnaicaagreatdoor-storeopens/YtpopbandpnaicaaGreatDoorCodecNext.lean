import Derived.Test.YtpopbandpnaicaaGreatDoorPack4
import Derived.Test.YtpopbandpnaicaaGreatDoorPack1
namespace Go.Proofs.YtpopbandpnaicaaGreatDoor
set_option maxRecDepth 100000
open Go.RowKit

def Bb (w : World) (b : Nat) (v : Value) : Prop := w.heap[b]? = some (.cells #[v] 53 (0, 0))

theorem Bb.lt {w : World} {b : Nat} {v : Value} (h : Bb w b v) : b < w.heap.size := (Array.getElem?_eq_some_iff.1 h).1

theorem Bb.cell {w : World} {b : Nat} {v : Value} (h : Bb w b v) : w.cell? ⟨b, 0, none⟩ = some v ∧ w.frozen? ⟨b, 0, none⟩ = false :=
 ⟨(cell_of_row w b 0 _ _ _ h).trans rfl, frozen_of_row w b 0 _ _ h⟩

theorem Bb.set {w : World} {b : Nat} {v : Value} (h : Bb w b v) (x : Value) : Bb (w.setCell ⟨b, 0, none⟩ x) b x := by
 have := heap_setCell_same w b 0 _ _ x h
 unfold Bb
 simpa using this

theorem Rd.setBox {w : World} {v x : Value} {m : List UInt8} (h : Rd w v m) {b : Nat} {ao : Option Addr} {n cap : Nat} (hb : w.cell? ⟨b, 0, none⟩ = some (.slice ao n cap)) : Rd (w.setCell ⟨b, 0, none⟩ x) v m := by
 obtain ⟨va, vc, h1, h2, h3, hn, h4⟩ := h
 refine ⟨va, vc, h1, h2, h3, hn, ?_⟩
 rcases h4 with h4 | ⟨c, off, h5, h6⟩
 · exact .inl h4
 · refine .inr ⟨c, off, h5, fun j hj => ?_⟩
   have hc := h6 j hj
   rw [World.cell?_setCell_other w ⟨b, 0, none⟩ ⟨c, off + j, none⟩ x (fun e => by
     rw [e, hc] at hb
     cases hb)]
   exact hc

def behind (d : Nat) (m : List UInt8) : List UInt8 := if d = 0 then [] else m.drop d

theorem numbers_any (ao : Option Addr) (n cap : Nat) (w : World) :
   Calls Tryz.prog 203 #[.slice ao n cap] w fun e w' => e = .returned (.tuple #[.func (.func 221) #[] #[.pointer (some ⟨w.heap.size, 0, none⟩)], .func (.func 222) #[] #[.pointer (some ⟨w.heap.size, 0, none⟩)]]) ∧ w' = w.alloc (.cells #[.slice ao n cap] 53) := by
 have hmf : ∀ (fn : Fn) (first cap : Array Value) (w : World), (Instr.makeFunc fn first cap).run Tryz.prog w = .ok (.func fn first cap) w := fun _ _ _ _ => rfl
 go_enter Tryz.func203, Tryz.ntmps203
 go_wp2
 go_ret2
 exact ⟨rfl, rfl⟩

theorem left_any (b : Nat) (ao : Option Addr) (n cap : Nat) (w : World) (hc : w.cell? ⟨b, 0, none⟩ = some (.slice ao n cap)) :
   Calls Tryz.prog 222 #[.pointer (some ⟨b, 0, none⟩)] w fun e w' => e = .returned (.int .i64 (n : Int)) ∧ w' = w := by
 go_enter Tryz.func222, Tryz.ntmps222
 go_wp2
 go_ret
 exact ⟨rfl, rfl⟩

set_option maxHeartbeats 1000000 in
theorem next_get (x : Int) (d : Nat) (b : Nat) (v : Value) (m : List UInt8) (w : World) (hb : Bb w b v) (hr : Rd w v m) (hd : d <= m.length) (hx : d = 0 -> x = 0)
   (hF : Calls Tryz.prog 171 #[v] w fun e w' => e = .returned (.tuple #[.int .i64 x, .int .i64 (d : Nat)]) ∧ w' = w) :
   Calls Tryz.prog 221 #[.func (.func 171) #[] #[], .pointer (some ⟨b, 0, none⟩)] w fun e w' => ∃ v', e = .returned (.tuple #[.int .i64 x, .bool (decide (d ≠ 0))]) ∧ Bb w' b v' ∧ Rd w' v' (behind d m) ∧ But b b w w' := by
 have HF := hide hF
 have HB := hide hb
 have HR := hide hr
 obtain ⟨ao, cap, rfl, -⟩ := hr
 obtain ⟨c0, f0⟩ := hb.cell
 by_cases h0 : d = 0
 · subst h0
   obtain rfl := hx rfl
   clear hF hb hx
   go_enter Tryz.func221, Tryz.ntmps221
   go_wp2_with fail
   refine HF.out.mono ?_
   rintro e w' ⟨rfl, rfl⟩
   go_wp2
   go_ret2
   exact ⟨_, rfl, HB.out.set _, Rd.nil _, (But.refl _ _ _).set _ _ (.inl rfl) _⟩
 · have hne : ((d : Int) == 0) = false := beq_eq_false_iff_ne.2 (by omega)
   have HC := hide (run_cut_l w _ m HR.out .i64 (d : Int) (by omega) (by omega))
   have HE : Hid (behind d m = m.drop d) := if_neg h0
   have HD : Hid (decide (d ≠ 0) = true) := decide_eq_true h0
   rw [Int.toNat_natCast] at HC
   clear hF hb hx h0
   go_enter Tryz.func221, Tryz.ntmps221
   go_wp2_with fail
   refine HF.out.mono ?_
   rintro e w' ⟨rfl, rfl⟩
   go_wp2_with (refine wpList_cut _ rfl _ _ _ _ rfl _ HC.out ?_)
   intro v1 hr1
   have HR1 := hide hr1
   obtain ⟨a1, n1, rfl, -⟩ := hr1
   generalize hM : m.drop d = M at *
   go_wp2
   go_ret2
   refine ⟨_, by rw [HD.out]; rfl, HB.out.set _, ?_, (But.refl _ _ _).set _ _ (.inl rfl) _⟩
   rw [HE.out]
   exact HR1.out.setBox c0

set_option maxHeartbeats 1000000 in
theorem next_signed (x : Int) (d : Nat) (b : Nat) (v : Value) (m : List UInt8) (w : World) (hb : Bb w b v) (hr : Rd w v m) (hd : d <= m.length) (hx : d = 0 -> x = 0)
   (hF : Calls Tryz.prog 204 #[v] w fun e w' => e = .returned (.tuple #[.int .i64 x, .int .i64 (d : Nat)]) ∧ w' = w) :
   Calls Tryz.prog 221 #[.func (.func 204) #[] #[], .pointer (some ⟨b, 0, none⟩)] w fun e w' => ∃ v', e = .returned (.tuple #[.int .i64 x, .bool (decide (d ≠ 0))]) ∧ Bb w' b v' ∧ Rd w' v' (behind d m) ∧ But b b w w' := by
 have HF := hide hF
 have HB := hide hb
 have HR := hide hr
 obtain ⟨ao, cap, rfl, -⟩ := hr
 obtain ⟨c0, f0⟩ := hb.cell
 by_cases h0 : d = 0
 · subst h0
   obtain rfl := hx rfl
   clear hF hb hx
   go_enter Tryz.func221, Tryz.ntmps221
   go_wp2_with fail
   refine HF.out.mono ?_
   rintro e w' ⟨rfl, rfl⟩
   go_wp2
   go_ret2
   exact ⟨_, rfl, HB.out.set _, Rd.nil _, (But.refl _ _ _).set _ _ (.inl rfl) _⟩
 · have hne : ((d : Int) == 0) = false := beq_eq_false_iff_ne.2 (by omega)
   have HC := hide (run_cut_l w _ m HR.out .i64 (d : Int) (by omega) (by omega))
   have HE : Hid (behind d m = m.drop d) := if_neg h0
   have HD : Hid (decide (d ≠ 0) = true) := decide_eq_true h0
   rw [Int.toNat_natCast] at HC
   clear hF hb hx h0
   go_enter Tryz.func221, Tryz.ntmps221
   go_wp2_with fail
   refine HF.out.mono ?_
   rintro e w' ⟨rfl, rfl⟩
   go_wp2_with (refine wpList_cut _ rfl _ _ _ _ rfl _ HC.out ?_)
   intro v1 hr1
   have HR1 := hide hr1
   obtain ⟨a1, n1, rfl, -⟩ := hr1
   generalize hM : m.drop d = M at *
   go_wp2
   go_ret2
   refine ⟨_, by rw [HD.out]; rfl, HB.out.set _, ?_, (But.refl _ _ _).set _ _ (.inl rfl) _⟩
   rw [HE.out]
   exact HR1.out.setBox c0

end Go.Proofs.YtpopbandpnaicaaGreatDoor
