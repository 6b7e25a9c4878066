/- Slices of bytes cut, and slices of slices of bytes: what one reads ('RdL'), what a call makes ('OwnL'). -/
import Derived.Test.YtfhgjnfichgdiaaNumApp
import Derived.Test.YtfhgjnfichgdiaaNumAwake
namespace Go.Proofs.Ytfhgjnfichgdiaa
open Go.RowKit

/-- Bytes in the midst of what is read. -/
theorem Rd.mid {w : World} {ao : Option Addr} {n cap : Nat} {l : List UInt8} (h : Rd w (.slice ao n cap) l) (i j m : Nat) (hij : i ≤ j) (hj : j ≤ l.length) (hm : j ≤ m) (hmc : m ≤ cap) : Rd w (sliced ao i j m 1) ((l.drop i).take (j - i)) := by
  obtain ⟨ao', cap', hv, h1, h2, h3, h4⟩ := h
  simp only [Value.slice.injEq] at hv
  obtain ⟨rfl, rfl, rfl⟩ := hv
  have hlen : ((l.drop i).take (j - i)).length = j - i := by simp; omega
  unfold sliced
  by_cases hmi : m = i
  · rw [if_pos hmi]
    have e : j - i = 0 := by omega
    refine ⟨ao, m - i, by rw [hlen], by omega, by omega, fun hn => by have := h3 hn; omega, .inl ?_⟩
    rw [e]
    simp
  · rw [if_neg hmi]
    refine ⟨ao.map (·.add (i * 1)), m - i, by rw [hlen], by omega, by omega, fun hn => ?_, ?_⟩
    · have hn' : ao = none := by simpa using hn
      have := h3 hn'
      omega
    · rcases h4 with h4 | ⟨b, off, h5, h6⟩
      · exact .inl (by rw [h4]; simp)
      · refine .inr ⟨b, off + i, ?_, fun k hk => ?_⟩
        · rw [h5, Nat.mul_one, Option.map_some, Addr.add_lit]
        · rw [hlen] at hk
          rw [Nat.add_assoc, h6 (i + k) (by omega)]
          simp [List.getD, hk]

theorem elem_bytes : Try.prog.elem 30 = 5 := by kernel_rfl

theorem size_u8 (w : World) : (sizeOf 5).run Try.prog w = .ok 1 w := by
  obtain ⟨i0, hi, _, hz1, _⟩ := info_parts info8
  simp [sizeOf, typeInfo, hi, hz1]

theorem under_bytes : Try.prog.underlying 30 = some (.slice (Try.prog.elem 30)) := by rw [elem_bytes]; exact Try.underlying30

theorem run_cut_lh (w : World) (v : Value) (l : List UInt8) (hr : Rd w v l) (k k' : IntKind) (i j : Int) (h0 : 0 ≤ i) (h1 : i ≤ j) (h2 : j ≤ l.length) :
    ∃ v', (Instr.sliceAt 30 v (some (.int k i)) (some (.int k' j)) none).run Try.prog w = .ok v' w ∧ Rd w v' ((l.drop i.toNat).take (j.toNat - i.toNat)) := by
  have h := hr
  obtain ⟨ao, cap, rfl, hlc, _⟩ := hr
  refine ⟨sliced ao i.toNat j.toNat cap 1, ?_, h.mid i.toNat j.toNat cap (by omega) (by omega) (by omega) (Nat.le_refl _)⟩
  rw [run_sliceAt_slice w 30 _ _ _ _ under_bytes, run_slice_lh w 30 ao l.length cap under_bytes k k' i j h0 h1 (by omega), elem_bytes, size_u8]
  rfl

theorem run_cut_l (w : World) (v : Value) (l : List UInt8) (hr : Rd w v l) (k : IntKind) (i : Int) (h0 : 0 ≤ i) (h2 : i ≤ l.length) :
    ∃ v', (Instr.sliceAt 30 v (some (.int k i)) none none).run Try.prog w = .ok v' w ∧ Rd w v' (l.drop i.toNat) := by
  have h := hr
  obtain ⟨ao, cap, rfl, hlc, _⟩ := hr
  refine ⟨sliced ao i.toNat l.length cap 1, ?_, ?_⟩
  · rw [run_sliceAt_slice w 30 _ _ _ _ under_bytes, run_slice_l w 30 ao l.length cap under_bytes k i h0 (by omega), elem_bytes, size_u8]
    rfl
  · have := h.mid i.toNat l.length cap (by omega) (Nat.le_refl _) hlc (Nat.le_refl _)
    rw [List.take_of_length_le (by simp)] at this
    exact this

theorem run_cut_h (w : World) (v : Value) (l : List UInt8) (hr : Rd w v l) (k : IntKind) (j : Int) (h0 : 0 ≤ j) (h2 : j ≤ l.length) :
    ∃ v', (Instr.sliceAt 30 v none (some (.int k j)) none).run Try.prog w = .ok v' w ∧ Rd w v' (l.take j.toNat) := by
  have h := hr
  obtain ⟨ao, cap, rfl, hlc, _⟩ := hr
  refine ⟨sliced ao 0 j.toNat cap 1, ?_, ?_⟩
  · rw [run_sliceAt_slice w 30 _ _ _ _ under_bytes, run_slice_h w 30 ao l.length cap under_bytes k j h0 (by omega), elem_bytes, size_u8]
    rfl
  · have := h.mid 0 j.toNat cap (by omega) (by omega) (by omega) (Nat.le_refl _)
    simpa using this

theorem run_cut_lhm (w : World) (v : Value) (l : List UInt8) (hr : Rd w v l) (k k' k2 : IntKind) (i j m : Int) (h0 : 0 ≤ i) (h1 : i ≤ j) (h2 : j ≤ m) (h3 : m ≤ l.length) :
    ∃ v', (Instr.sliceAt 30 v (some (.int k i)) (some (.int k' j)) (some (.int k2 m))).run Try.prog w = .ok v' w ∧ Rd w v' ((l.drop i.toNat).take (j.toNat - i.toNat)) := by
  have h := hr
  obtain ⟨ao, cap, rfl, hlc, _⟩ := hr
  refine ⟨sliced ao i.toNat j.toNat m.toNat 1, ?_, h.mid i.toNat j.toNat m.toNat (by omega) (by omega) (by omega) (by omega)⟩
  rw [run_sliceAt_slice w 30 _ _ _ _ under_bytes, run_slice_lhm w 30 ao l.length cap under_bytes k k' k2 i j m h0 h1 h2 (by omega), elem_bytes, size_u8]
  rfl

theorem run_cut_hm (w : World) (v : Value) (l : List UInt8) (hr : Rd w v l) (k' k2 : IntKind) (j m : Int) (h1 : 0 ≤ j) (h2 : j ≤ m) (h3 : m ≤ l.length) :
    ∃ v', (Instr.sliceAt 30 v none (some (.int k' j)) (some (.int k2 m))).run Try.prog w = .ok v' w ∧ Rd w v' (l.take j.toNat) := by
  have h := hr
  obtain ⟨ao, cap, rfl, hlc, _⟩ := hr
  refine ⟨sliced ao 0 j.toNat m.toNat 1, ?_, ?_⟩
  · rw [run_sliceAt_slice w 30 _ _ _ _ under_bytes, run_slice_hm w 30 ao l.length cap under_bytes k' k2 j m h1 h2 (by omega), elem_bytes, size_u8]
    rfl
  · have := h.mid 0 j.toNat m.toNat (by omega) (by omega) (by omega) (by omega)
    simpa using this

/-- A cut, once one knows what it makes. -/
theorem wpList_cut (w : World) {ops : Array Oper} {rest : List Oper} {o : Oper} {a : Act} {Q : Exit → Act → World → Prop} (hgd : o.guard = none) (x : Operand) (lo hi mx : Option Operand)
    (ho : o.op = .slice 30 x lo hi mx) (l : List UInt8)
    (hrun : ∃ v', (Instr.sliceAt 30 (a.eval x) (lo.map a.eval) (hi.map a.eval) (mx.map a.eval)).run Try.prog w = .ok v' w ∧ Rd w v' l)
    (h : ∀ v', Rd w v' l → wpList Try.prog ops Q rest (a.put o.dst v') w) : wpList Try.prog ops Q (o :: rest) a w :=
  wpList_plain hgd fun _ hK => by
    obtain ⟨v', hrun, hr⟩ := hrun
    unfold Oper.wp execOp
    simp only [ho, hrun, Sem.run_bind, Sem.run_pure, Result.andThen_ok]
    exact hK _ _ (h v' hr)

end Go.Proofs.Ytfhgjnfichgdiaa
