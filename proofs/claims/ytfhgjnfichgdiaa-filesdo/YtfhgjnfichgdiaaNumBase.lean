/- Slices of bytes in memory: what one reads ('Rd'), what a call owns ('Own'), and how both last while other calls make memory. -/
import Derived.Test.YtfhgjnfichgdiaaNumPlain
import Derived.Test.YtfhgjnfichgdiaaRows
import Derived.WalkKit
import Derived.ProofKit
import Derived.Test.YtfhgjnfichgdiaaBase0
namespace Go.Proofs.Ytfhgjnfichgdiaa
open Go.RowKit

/-- The slice value v reads, in the world w, as the bytes l. -/
def Rd (w : World) (v : Value) (l : List UInt8) : Prop :=
  ∃ ao cap, v = .slice ao l.length cap ∧ l.length ≤ cap ∧ cap ≤ maxLen ∧ (ao = none → cap = 0) ∧
    (l = [] ∨ ∃ b off, ao = some ⟨b, off, none⟩ ∧ ∀ j, j < l.length → w.cell? ⟨b, off + j, none⟩ = some (.int .u8 (l.getD j 0).toNat))

/-- The slice value v lies at the head of a row of its own, from block B on, that holds the bytes l. -/
def Own (w : World) (B : Nat) (v : Value) (l : List UInt8) : Prop := w.ownsRow B 5 1 v l.length (Lib.byteCells l)

set_option maxRecDepth 100000 in
theorem byteCells_length (l : List UInt8) : (Lib.byteCells l).length = l.length := by simp [Lib.byteCells]

set_option maxRecDepth 100000 in
theorem byteCells_get (l : List UInt8) (j : Nat) (h : j < l.length) : (Lib.byteCells l)[j]? = some (.int .u8 (l.getD j 0).toNat) := by
  simp [Lib.byteCells, List.getD, h]

set_option maxRecDepth 100000 in
theorem byteCells_one (l : List UInt8) : ∀ u ∈ Lib.byteCells l, u.oneCell' = true := by
  intro u hu
  obtain ⟨_, _, rfl⟩ := List.mem_map.1 hu
  rfl

set_option maxRecDepth 100000 in
theorem Rd.nil (w : World) : Rd w (.slice none 0 0) [] := ⟨none, 0, rfl, Nat.le_refl _, Nat.zero_le _, fun _ => rfl, .inl rfl⟩

set_option maxRecDepth 100000 in
theorem Rd.below {w w' : World} {v : Value} {l : List UInt8} (h : Rd w v l) {B : Nat} (hb : Below B w w') (hB : w.heap.size ≤ B) : Rd w' v l := by
  obtain ⟨ao, cap, h1, h2, h3, hn, h4⟩ := h
  refine ⟨ao, cap, h1, h2, h3, hn, ?_⟩
  rcases h4 with h4 | ⟨b, off, h5, h6⟩
  · exact .inl h4
  · refine .inr ⟨b, off, h5, fun j hj => ?_⟩
    have hc := h6 j hj
    have hlt : b < w.heap.size := World.block_lt_of_cell? w ⟨b, off + j, none⟩ hc
    rw [hb.cell (p := ⟨b, off + j, none⟩) (by exact Nat.lt_of_lt_of_le hlt hB)]
    exact hc

set_option maxRecDepth 100000 in
/-- One byte of what is read. -/
theorem Rd.at {w : World} {b off n cap : Nat} {l : List UInt8} (h : Rd w (.slice (some ⟨b, off, none⟩) n cap) l) (j : Nat) (hj : j < l.length) : w.cell? ⟨b, off + j, none⟩ = some (.int .u8 (l.getD j 0).toNat) := by
  obtain ⟨ao, cap', hv, _, _, _, h4⟩ := h
  simp only [Value.slice.injEq] at hv
  obtain ⟨rfl, _, rfl⟩ := hv
  rcases h4 with h4 | ⟨b', off', h5, h6⟩
  · subst h4
    simp at hj
  · simp only [Option.some.injEq, Addr.mk.injEq, and_true] at h5
    obtain ⟨rfl, rfl⟩ := h5
    exact h6 j hj

set_option maxRecDepth 100000 in
/-- The first bytes of what is read. -/
theorem Rd.front {w : World} {ao : Option Addr} {n cap : Nat} {l : List UInt8} (h : Rd w (.slice ao n cap) l) (k : Nat) (hk : k ≤ l.length) : Rd w (.slice ao k cap) (l.take k) := by
  obtain ⟨ao', cap', hv, h1, h2, h3, h4⟩ := h
  simp only [Value.slice.injEq] at hv
  obtain ⟨rfl, _, rfl⟩ := hv
  have hlen : (l.take k).length = k := by simp; omega
  refine ⟨ao, cap, by rw [hlen], by omega, h2, h3, ?_⟩
  rcases h4 with h4 | ⟨b, off, h5, h6⟩
  · exact .inl (by rw [h4]; simp)
  · refine .inr ⟨b, off, h5, fun j hj => ?_⟩
    have hj2 : j < k := by omega
    rw [h6 j (by omega)]
    simp [List.getD, hj2]

/-- A row of noughts, made. -/
def zeroRow (n : Nat) : Array Value := (List.replicate n (Value.int .u8 0)).toArray

set_option maxRecDepth 100000 in
theorem Rd.made (w : World) (n : Nat) (hn : n ≤ maxLen) : Rd (w.alloc (.cells (zeroRow n) 5)) (.slice (some ⟨w.heap.size, 0, none⟩) n n) (List.replicate n 0) := by
  have hl : (List.replicate n (0 : UInt8)).length = n := List.length_replicate
  refine ⟨some ⟨w.heap.size, 0, none⟩, n, by rw [hl], by omega, hn, (fun e => by cases e), .inr ⟨w.heap.size, 0, rfl, fun j hj => ?_⟩⟩
  have hj' : j < n := by omega
  rw [Nat.zero_add, cell_of_row _ w.heap.size j (zeroRow n) 5 (0, 0) (heap_alloc_new w _)]
  simp [zeroRow, List.getD, hj']

set_option maxRecDepth 100000 in
/-- A row of numbers that came in, as bytes. -/
theorem Rd.ofRow {w : World} {x : Addr} {len cap : Nat} {zs : List Int} (hl : len ≤ cap) (hm : cap ≤ maxLen) (hz : zs.length = cap) (hcell : ∀ i, i < zs.length → w.cell? (x.add i) = some (.int .u8 (zs.getD i 0))) (hwz : ∀ n ∈ zs, (Lit.int .u8 n).wf = true) :
    Rd w (.slice (some x) len cap) ((zs.take len).map fun n => UInt8.ofNat n.toNat) := by
  have hlen : ((zs.take len).map fun n => UInt8.ofNat n.toNat).length = len := by simp; omega
  refine ⟨some x, cap, by rw [hlen], by omega, hm, (fun e => by cases e), ?_⟩
  by_cases h0 : len = 0
  · exact .inl (by rw [h0]; rfl)
  · obtain ⟨b, off, spot⟩ := x
    have hc := hcell 0 (by omega)
    have hspot : spot = none := by simpa [Addr.add] using World.cell?_spot hc
    subst hspot
    refine .inr ⟨b, off, rfl, fun j hj => ?_⟩
    have hj' : j < zs.length := by omega
    have hcj := hcell j hj'
    rw [Addr.add_lit] at hcj
    rw [hcj]
    have hmem : zs[j] ∈ zs := List.getElem_mem hj'
    have hw := hwz _ hmem
    have hb : 0 ≤ zs[j] ∧ zs[j] ≤ 255 := by simpa [Lit.wf, IntKind.min, IntKind.max, IntKind.signed, IntKind.bits] using hw
    have e : (((zs.take len).map fun n => UInt8.ofNat n.toNat).getD j 0) = UInt8.ofNat (zs[j]).toNat := by
      simp [List.getD, hj', show j < len by omega]
    rw [e]
    have e2 : zs.getD j 0 = zs[j] := by simp [List.getD, hj']
    rw [e2, UInt8.toNat_ofNat']
    congr 2
    omega

set_option maxRecDepth 100000 in
theorem Own.rd {w : World} {B : Nat} {v : Value} {l : List UInt8} (h : Own w B v l) : Rd w v l := by
  rcases h.2 with ⟨hv, hn⟩ | ⟨g, cap, cur, hv, hb, hg, hnc, hcm, hcs, htake⟩
  · exact ⟨none, 0, by rw [hv, hn], by omega, Nat.zero_le _, fun _ => rfl, .inl (List.eq_nil_of_length_eq_zero hn)⟩
  · refine ⟨some ⟨g, 0, none⟩, cap, hv, hnc, hcm, (fun e => by cases e), .inr ⟨g, 0, rfl, fun j hj => ?_⟩⟩
    have := World.ownsRow.cells h (g := g) (by rw [hv]; rfl) j _ (byteCells_get l j hj)
    rw [Addr.add_lit] at this
    exact this

set_option maxRecDepth 100000 in
theorem Own.mono {w : World} {B B' : Nat} {v : Value} {l : List UInt8} (h : Own w B v l) (hB : B' ≤ B) : Own w B' v l := by
  obtain ⟨h1, h2⟩ := h
  refine ⟨h1, ?_⟩
  rcases h2 with h2 | ⟨g, cap, cur, hv, hb, r⟩
  · exact .inl h2
  · exact .inr ⟨g, cap, cur, hv, by omega, r⟩

set_option maxRecDepth 100000 in
theorem Own.below {w w' : World} {B B' : Nat} {v : Value} {l : List UInt8} (h : Own w B v l) (hb : Below B' w w') (hB : w.heap.size ≤ B') : Own w' B v l := by
  obtain ⟨h1, h2⟩ := h
  refine ⟨h1, ?_⟩
  rcases h2 with h2 | ⟨g, cap, cur, hv, hbg, hg, r⟩
  · exact .inl h2
  · have hlt : g < w.heap.size := (Array.getElem?_eq_some_iff.1 hg).1
    exact .inr ⟨g, cap, cur, hv, hbg, by rw [hb.block g (by omega)]; exact hg, r⟩

set_option maxRecDepth 100000 in
/-- The cells of what is read, for an append of them. -/
theorem Rd.cells {w : World} {ao : Option Addr} {l : List UInt8} (h : l = [] ∨ ∃ b off, ao = some ⟨b, off, none⟩ ∧ ∀ j, j < l.length → w.cell? ⟨b, off + j, none⟩ = some (.int .u8 (l.getD j 0).toNat)) :
    ∀ ad, ao = some ad → ∀ j u, (Lib.byteCells l)[j]? = some u → w.cell? (ad.add j) = some u := by
  intro ad had j u hu
  have hj : j < l.length := by
    have := (List.getElem?_eq_some_iff.1 hu).1
    simpa [Lib.byteCells] using this
  rcases h with rfl | ⟨b, off, h5, h6⟩
  · simp at hj
  · rw [h5] at had
    obtain rfl := Option.some.inj had
    rw [Addr.add_lit, h6 j hj, ← byteCells_get l j hj, hu]

set_option maxRecDepth 100000 in
/-- Bytes owned, given by their cells. -/
theorem Own.mk' {w : World} {B : Nat} {v : Value} {n : Nat} {xs : List Value} {l : List UInt8} (h : w.ownsRow B 5 1 v n xs) (hn : n = l.length) (hx : xs = Lib.byteCells l) : Own w B v l := by
  subst hn hx
  exact h

set_option maxRecDepth 100000 in
theorem hide {p : Prop} (h : p) : Hid p := h

set_option maxRecDepth 100000 in
theorem info8 : (Try.prog.info? 5).map (fun i => (i.zero, i.size, i.bytes)) = some (some (.int .u8 0), 1, 1) := by kernel_rfl

set_option maxRecDepth 100000 in
theorem i64_bd {n : Int} (h : (Lit.int .i64 n).wf = true) : -9223372036854775808 ≤ n ∧ n ≤ 9223372036854775807 := by
  simpa [Lit.wf, IntKind.min, IntKind.max, IntKind.signed, IntKind.bits] using h

set_option maxRecDepth 100000 in
theorem u64_bd {n : Int} (h : (Lit.int .u64 n).wf = true) : 0 ≤ n ∧ n ≤ 18446744073709551615 := by
  simpa [Lit.wf, IntKind.min, IntKind.max, IntKind.signed, IntKind.bits] using h

set_option maxRecDepth 100000 in
theorem ret_bool {a b : Bool} (h : a = b) : Ending.returned (.bool a) = .returned (.bool b) := by rw [h]

set_option maxRecDepth 100000 in
theorem run_make_bytes (w : World) (n : Nat) (hn : n ≤ 1000000) : (Instr.makeSlice 30 (.int .i64 (n : Int)) (.int .i64 (n : Int))).run Try.prog w = .ok (.slice (some ⟨w.heap.size, 0, none⟩) n n) (w.alloc (.cells (zeroRow n) 5)) := by
  obtain ⟨i0, hi, hz0, hz1, hz2⟩ := info_parts info8
  have h := run_make (P := Try.prog) w 30 5 i0 (.int .u8 0) Try.underlying30 hi hz0 .i64 .i64 (n : Int) (n : Int) (by omega) (Int.le_refl _) (by rw [hz2]; omega) (by omega)
  rw [Int.toNat_natCast, hz1, Nat.mul_one] at h
  rw [h]
  congr 3
  apply Array.ext'
  show (madeCells #[Value.int .u8 0] n).toList = _
  rw [toList_madeCells_one]
  rfl

set_option maxRecDepth 100000 in
theorem ret_int {k : IntKind} {a b : Int} (h : a = b) : Ending.returned (.int k a) = .returned (.int k b) := by rw [h]

end Go.Proofs.Ytfhgjnfichgdiaa
