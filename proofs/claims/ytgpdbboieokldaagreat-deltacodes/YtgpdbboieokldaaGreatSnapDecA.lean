/- Contract of snapshot: getNumbers. -/
import Derived.Test.YtgpdbboieokldaaGreatPack3
import Derived.Test.YtgpdbboieokldaaGreatCodecNext
namespace Go.Proofs.YtgpdbboieokldaaGreat
open Go.RowKit

/-- Two worlds that are alike but for how often was drawn. -/
def Alike (X W : World) : Prop := W.heap = X.heap ∧ W.os = X.os ∧ W.tape = X.tape ∧ W.output = X.output

theorem Alike.refl (X : World) : Alike X X := ⟨rfl, rfl, rfl, rfl⟩

theorem Alike.drew {X W : World} (h : Alike X W) : Alike X W.drew := h

theorem Alike.set {X W : World} (h : Alike X W) (a : Addr) (v : Value) : Alike (X.setCell a v) (W.setCell a v) := by
  obtain ⟨h1, h2, h3, h4⟩ := h
  refine ⟨?_, h2, h3, h4⟩
  simp only [World.setCell, h1]

theorem Alike.below {X W : World} (h : Alike X W) (B : Nat) : Below B X W := ⟨h.2.1, h.2.2.1, h.2.2.2, by rw [h.1]; exact Nat.le_refl _, fun k _ => by rw [h.1]⟩

theorem Alike.cell {X W : World} (h : Alike X W) (a : Addr) : W.cell? a = X.cell? a := by simp only [World.cell?, h.1]

theorem Alike.froz {X W : World} (h : Alike X W) (a : Addr) : W.frozen? a = X.frozen? a := by simp only [World.frozen?, h.1]

/-- A cell that holds a number, and may be written. -/
def NumAt (w : World) (p : Nat × Nat) : Prop := (∃ x : Int, w.cell? ⟨p.1, p.2, none⟩ = some (.int .i64 x)) ∧ w.frozen? ⟨p.1, p.2, none⟩ = false

theorem NumAt.set {w : World} {p : Nat × Nat} (h : NumAt w p) (p' : Nat × Nat) (n : Int) : NumAt (w.setCell ⟨p'.1, p'.2, none⟩ (.int .i64 n)) p := by
  obtain ⟨⟨x, h1⟩, h2⟩ := h
  refine ⟨?_, by rw [World.frozen?_setCell]; exact h2⟩
  by_cases e : (⟨p'.1, p'.2, none⟩ : Addr) = ⟨p.1, p.2, none⟩
  · rw [e]
    exact ⟨n, World.cell?_setCell_same _ _ _ h1⟩
  · exact ⟨x, by rw [World.cell?_setCell_other _ _ _ _ (fun h => e h)]; exact h1⟩

/-- What is read stays while a cell that holds a number is written. -/
theorem Rd.setNum {w : World} {v : Value} {m : List UInt8} (h : Rd w v m) {p : Nat × Nat} (hp : NumAt w p) (x : Value) : Rd (w.setCell ⟨p.1, p.2, none⟩ x) v m := by
  obtain ⟨va, vc, h1, h2, h3, hn, h4⟩ := h
  refine ⟨va, vc, h1, h2, h3, hn, ?_⟩
  rcases h4 with h4 | ⟨c, off, h5, h6⟩
  · exact .inl h4
  · refine .inr ⟨c, off, h5, fun j hj => ?_⟩
    have hc := h6 j hj
    rw [World.cell?_setCell_other w ⟨p.1, p.2, none⟩ ⟨c, off + j, none⟩ x (fun e => by
      obtain ⟨⟨y, hy⟩, -⟩ := hp
      rw [e, hc] at hy
      cases hy)]
    exact hc

/-- Numbers written at places. -/
def setAt (w : World) : List (Nat × Nat) → List Nat → World
  | p :: ps, n :: ns => setAt (w.setCell ⟨p.1, p.2, none⟩ (.int .i64 (n : Int))) ps ns
  | _, _ => w

theorem setAt_snoc : ∀ (w : World) (ps : List (Nat × Nat)) (ns : List Nat) (p : Nat × Nat) (n : Nat), ps.length = ns.length → setAt w (ps ++ [p]) (ns ++ [n]) = (setAt w ps ns).setCell ⟨p.1, p.2, none⟩ (.int .i64 (n : Int))
  | w, [], [], p, n, _ => rfl
  | w, q :: ps, m :: ns, p, n, h => by
    rw [List.cons_append, List.cons_append, setAt, setAt_snoc _ ps ns p n (by simpa using h), setAt]

theorem setAt_num : ∀ (w : World) (ps : List (Nat × Nat)) (ns : List Nat) {p : Nat × Nat}, NumAt w p → NumAt (setAt w ps ns) p
  | w, [], _, p, h => by cases ‹List Nat› <;> exact h
  | w, q :: ps, [], p, h => h
  | w, q :: ps, m :: ns, p, h => by
    rw [setAt]
    exact setAt_num _ ps ns (h.set q m)

theorem setAt_block : ∀ (w : World) (ps : List (Nat × Nat)) (ns : List Nat) (k : Nat), (∀ p ∈ ps, p.1 ≠ k) → (setAt w ps ns).heap[k]? = w.heap[k]?
  | w, [], ns, k, _ => by cases ns <;> rfl
  | w, q :: ps, [], k, _ => rfl
  | w, q :: ps, m :: ns, k, h => by
    rw [setAt, setAt_block _ ps ns k (fun p hp => h p (by simp [hp]))]
    exact Below.heap_setCell _ _ _ _ (fun e => h q (by simp) e.symm)

theorem setAt_below : ∀ (w : World) (ps : List (Nat × Nat)) (ns : List Nat) (B : Nat) (w0 : World), (∀ p ∈ ps, B ≤ p.1) → Below B w0 w → Below B w0 (setAt w ps ns)
  | w, [], ns, B, w0, _, h => by cases ns <;> exact h
  | w, q :: ps, [], B, w0, _, h => h
  | w, q :: ps, m :: ns, B, w0, hp, h => by
    rw [setAt]
    exact setAt_below _ ps ns B w0 (fun p h => hp p (by simp [h])) (h.setCell (hp q (by simp)) _)

/-- What getNumbers answers. -/
def GotNs (w : World) (v : Value) (b : List UInt8) (ps : List (Nat × Nat)) (r : Option (List Nat × List UInt8)) (e : Ending) (w' : World) : Prop :=
  ∃ (v' : Value) (l : List UInt8) (ns : List Nat), e = .returned (.tuple #[v', .bool r.isSome]) ∧ (∀ W, Rd W v b → Rd W v' l) ∧ (r = none → l = []) ∧ (∀ x, r = some x → x = (ns, l)) ∧ (∀ n ∈ ns, n < 4611686018427387904) ∧ ns.length ≤ ps.length ∧ Alike (setAt w (ps.take ns.length) ns) w'

theorem setAt_rd : ∀ (w : World) (ps : List (Nat × Nat)) (ns : List Nat) {v : Value} {m : List UInt8}, (∀ p ∈ ps, NumAt w p) → Rd w v m → Rd (setAt w ps ns) v m
  | w, [], ns, v, m, _, h => by cases ns <;> exact h
  | w, q :: ps, [], v, m, _, h => h
  | w, q :: ps, k :: ns, v, m, hp, h => by
    rw [setAt]
    exact setAt_rd _ ps ns (fun p hh => (hp p (by simp [hh])).set q k) (h.setNum (hp q (by simp)) _)

theorem cut_from (ao : Option Addr) (l : List UInt8) (cap : Nat) (hlc : l.length ≤ cap) (d : Nat) (hd : d ≤ l.length) :
    ∃ xa xc, (∀ W, (Instr.sliceAt 26 (.slice ao l.length cap) (some (.int .i64 (d : Int))) none none).run Tryz.prog W = .ok (.slice xa (l.drop d).length xc) W) ∧ ∀ W, Rd W (.slice ao l.length cap) l → Rd W (.slice xa (l.drop d).length xc) (l.drop d) := by
  have hsl : ∃ xa xc, sliced ao d l.length cap 1 = .slice xa (l.length - d) xc := by
    unfold sliced
    exact ⟨_, _, rfl⟩
  obtain ⟨xa, xc, hsl⟩ := hsl
  refine ⟨xa, xc, fun W => ?_, fun W h => ?_⟩
  · rw [run_sliceAt_slice W 26 _ _ _ _ under_bytes, run_slice_l W 26 ao l.length cap under_bytes .i64 (d : Int) (by omega) (by omega), elem_bytes, size_u8, List.length_drop, ← hsl]
    rfl
  · rw [List.length_drop, ← hsl]
    have h2 := h.mid d l.length cap hd (Nat.le_refl _) hlc (Nat.le_refl _)
    rw [List.take_of_length_le (by simp)] at h2
    exact h2

theorem getsL_step {n : Nat} {b : List UInt8} (h : (dec62 b).2 ≠ 0) : getsL (n + 1) b = (getsL n (b.drop (dec62 b).2)).map (fun r => ((dec62 b).1 :: r.1, r.2)) := by rw [getsL, if_neg h]

theorem getsL_stop {n : Nat} {b : List UInt8} (h : (dec62 b).2 = 0) : getsL (n + 1) b = none := by rw [getsL, if_pos h]

end Go.Proofs.YtgpdbboieokldaaGreat
