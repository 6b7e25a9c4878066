import Derived.Test.YtanmjihiceibbaaPack2
import Derived.Test.YtanmjihiceibbaaPack3
import Derived.Test.YtanmjihiceibbaaPack1
import Derived.Test.YtanmjihiceibbaaPack5
import Derived.Test.YtanmjihiceibbaaPack4
import Derived.Test.YtanmjihiceibbaaObjsMayD
import Derived.Deep.RegionHeld
import Derived.Test.YtanmjihiceibbaaRef05B
import Derived.Test.YtanmjihiceibbaaObjsMayC
/- The reader of the landed codec: numbers, and the two closures that it answers. -/
namespace Go.Proofs.Ytanmjihiceibbaa
open Go.RowKit

/-- A box that holds one slice of bytes. -/
def Bb (w : World) (b : Nat) (v : Value) : Prop := w.heap[b]? = some (.cells #[v] 30 (0, 0))

theorem Bb.lt {w : World} {b : Nat} {v : Value} (h : Bb w b v) : b < w.heap.size := (Array.getElem?_eq_some_iff.1 h).1

theorem Bb.cell {w : World} {b : Nat} {v : Value} (h : Bb w b v) : w.cell? ⟨b, 0, none⟩ = some v ∧ w.frozen? ⟨b, 0, none⟩ = false :=
  ⟨(cell_of_row w b 0 _ _ _ h).trans rfl, frozen_of_row w b 0 _ _ h⟩

theorem Bb.set {w : World} {b : Nat} {v : Value} (h : Bb w b v) (x : Value) : Bb (w.setCell ⟨b, 0, none⟩ x) b x := by
  have := heap_setCell_same w b 0 _ _ x h
  unfold Bb
  simpa using this

/-- What is read stays while a box of a slice is written. -/
theorem Rd.setBox {w : World} {v x : Value} {m : List UInt8} (h : Rd w v m) {b : Nat} {ao : Option Addr} {n cap : Nat} (hb : w.cell? ⟨b, 0, none⟩ = some (.slice ao n cap)) : Rd (w.setCell ⟨b, 0, none⟩ x) v m := by
  obtain ⟨va, vc, h1, h2, h3, hn, h4⟩ := h
  refine ⟨va, vc, h1, h2, h3, hn, ?_⟩
  rcases h4 with h4 | ⟨c, off, h5, h6⟩
  · exact .inl h4
  · refine .inr ⟨c, off, h5, fun j hj => ?_⟩
    have hc := h6 j hj
    rw [World.cell?_setCell_other w ⟨b, 0, none⟩ ⟨c, off + j, none⟩ x (fun e => by
      rw [e, hc] at hb
      cases hb)]
    exact hc

/-- What is left behind a number of d bytes; nothing, if there is none. -/
def behind (d : Nat) (m : List UInt8) : List UInt8 := if d = 0 then [] else m.drop d

set_option maxRecDepth 100000 in
theorem numbers_any (ao : Option Addr) (n cap : Nat) (w : World) :
    Calls Try.prog 113 #[.slice ao n cap] w fun e w' => e = .returned (.tuple #[.func (.func 129) #[] #[.pointer (some ⟨w.heap.size, 0, none⟩)], .func (.func 130) #[] #[.pointer (some ⟨w.heap.size, 0, none⟩)]]) ∧ w' = w.alloc (.cells #[.slice ao n cap] 30) := by
  have hmf : ∀ (fn : Fn) (first cap : Array Value) (w : World), (Instr.makeFunc fn first cap).run Try.prog w = .ok (.func fn first cap) w := fun _ _ _ _ => rfl
  go_enter Try.func113, Try.ntmps113
  go_wp2
  go_ret2
  exact ⟨rfl, rfl⟩

set_option maxRecDepth 100000 in
theorem left_any (b : Nat) (ao : Option Addr) (n cap : Nat) (w : World) (hc : w.cell? ⟨b, 0, none⟩ = some (.slice ao n cap)) :
    Calls Try.prog 130 #[.pointer (some ⟨b, 0, none⟩)] w fun e w' => e = .returned (.int .i64 (n : Int)) ∧ w' = w := by
  go_enter Try.func130, Try.ntmps130
  go_wp2
  go_ret
  exact ⟨rfl, rfl⟩

set_option maxRecDepth 100000 in
set_option maxHeartbeats 1000000 in
theorem next_get (x : Int) (d : Nat) (b : Nat) (v : Value) (m : List UInt8) (w : World) (hb : Bb w b v) (hr : Rd w v m) (hd : d ≤ m.length) (hx : d = 0 → x = 0)
    (hF : Calls Try.prog 112 #[v] w fun e w' => e = .returned (.tuple #[.int .i64 x, .int .i64 (d : Nat)]) ∧ w' = w) :
    Calls Try.prog 129 #[.func (.func 112) #[] #[], .pointer (some ⟨b, 0, none⟩)] w fun e w' => ∃ v', e = .returned (.tuple #[.int .i64 x, .bool (decide (d ≠ 0))]) ∧ Bb w' b v' ∧ Rd w' v' (behind d m) ∧ But b b w w' := by
  have HF := hide hF
  have HB := hide hb
  have HR := hide hr
  obtain ⟨ao, cap, rfl, -⟩ := hr
  obtain ⟨c0, f0⟩ := hb.cell
  by_cases h0 : d = 0
  · subst h0
    obtain rfl := hx rfl
    clear hF hb hx
    go_enter Try.func129, Try.ntmps129
    go_wp2_with fail
    refine HF.out.mono ?_
    rintro e w' ⟨rfl, rfl⟩
    go_wp2
    go_ret2
    exact ⟨_, rfl, HB.out.set _, Rd.nil _, (But.refl _ _ _).set _ _ (.inl rfl) _⟩
  · have hne : ((d : Int) == 0) = false := beq_eq_false_iff_ne.2 (by omega)
    have HC := hide (run_cut_l w _ m HR.out .i64 (d : Int) (by omega) (by omega))
    have HE : Hid (behind d m = m.drop d) := if_neg h0
    have HD : Hid (decide (d ≠ 0) = true) := decide_eq_true h0
    rw [Int.toNat_natCast] at HC
    clear hF hb hx h0
    go_enter Try.func129, Try.ntmps129
    go_wp2_with fail
    refine HF.out.mono ?_
    rintro e w' ⟨rfl, rfl⟩
    go_wp2_with (refine wpList_cut _ rfl _ _ _ _ rfl _ HC.out ?_)
    intro v1 hr1
    have HR1 := hide hr1
    obtain ⟨a1, n1, rfl, -⟩ := hr1
    generalize hM : m.drop d = M at *
    go_wp2
    go_ret2
    refine ⟨_, by rw [HD.out]; rfl, HB.out.set _, ?_, (But.refl _ _ _).set _ _ (.inl rfl) _⟩
    rw [HE.out]
    exact HR1.out.setBox c0

set_option maxRecDepth 100000 in
set_option maxHeartbeats 1000000 in
theorem next_signed (x : Int) (d : Nat) (b : Nat) (v : Value) (m : List UInt8) (w : World) (hb : Bb w b v) (hr : Rd w v m) (hd : d ≤ m.length) (hx : d = 0 → x = 0)
    (hF : Calls Try.prog 114 #[v] w fun e w' => e = .returned (.tuple #[.int .i64 x, .int .i64 (d : Nat)]) ∧ w' = w) :
    Calls Try.prog 129 #[.func (.func 114) #[] #[], .pointer (some ⟨b, 0, none⟩)] w fun e w' => ∃ v', e = .returned (.tuple #[.int .i64 x, .bool (decide (d ≠ 0))]) ∧ Bb w' b v' ∧ Rd w' v' (behind d m) ∧ But b b w w' := by
  have HF := hide hF
  have HB := hide hb
  have HR := hide hr
  obtain ⟨ao, cap, rfl, -⟩ := hr
  obtain ⟨c0, f0⟩ := hb.cell
  by_cases h0 : d = 0
  · subst h0
    obtain rfl := hx rfl
    clear hF hb hx
    go_enter Try.func129, Try.ntmps129
    go_wp2_with fail
    refine HF.out.mono ?_
    rintro e w' ⟨rfl, rfl⟩
    go_wp2
    go_ret2
    exact ⟨_, rfl, HB.out.set _, Rd.nil _, (But.refl _ _ _).set _ _ (.inl rfl) _⟩
  · have hne : ((d : Int) == 0) = false := beq_eq_false_iff_ne.2 (by omega)
    have HC := hide (run_cut_l w _ m HR.out .i64 (d : Int) (by omega) (by omega))
    have HE : Hid (behind d m = m.drop d) := if_neg h0
    have HD : Hid (decide (d ≠ 0) = true) := decide_eq_true h0
    rw [Int.toNat_natCast] at HC
    clear hF hb hx h0
    go_enter Try.func129, Try.ntmps129
    go_wp2_with fail
    refine HF.out.mono ?_
    rintro e w' ⟨rfl, rfl⟩
    go_wp2_with (refine wpList_cut _ rfl _ _ _ _ rfl _ HC.out ?_)
    intro v1 hr1
    have HR1 := hide hr1
    obtain ⟨a1, n1, rfl, -⟩ := hr1
    generalize hM : m.drop d = M at *
    go_wp2
    go_ret2
    refine ⟨_, by rw [HD.out]; rfl, HB.out.set _, ?_, (But.refl _ _ _).set _ _ (.inl rfl) _⟩
    rw [HE.out]
    exact HR1.out.setBox c0

end Go.Proofs.Ytanmjihiceibbaa

/- Contract of snapshot: getNumbers. -/
namespace Go.Proofs.Ytanmjihiceibbaa
open Go.RowKit

/-- Two worlds that are alike but for how often was drawn. -/
def Alike (X W : World) : Prop := W.heap = X.heap ∧ W.os = X.os ∧ W.tape = X.tape ∧ W.output = X.output

theorem Alike.refl (X : World) : Alike X X := ⟨rfl, rfl, rfl, rfl⟩

theorem Alike.drew {X W : World} (h : Alike X W) : Alike X W.drew := h

theorem Alike.set {X W : World} (h : Alike X W) (a : Addr) (v : Value) : Alike (X.setCell a v) (W.setCell a v) := by
  obtain ⟨h1, h2, h3, h4⟩ := h
  refine ⟨?_, h2, h3, h4⟩
  simp only [World.setCell, h1]

theorem Alike.below {X W : World} (h : Alike X W) (B : Nat) : Below B X W := ⟨h.2.1, h.2.2.1, h.2.2.2, by rw [h.1]; exact Nat.le_refl _, fun k _ => by rw [h.1]⟩

theorem Alike.cell {X W : World} (h : Alike X W) (a : Addr) : W.cell? a = X.cell? a := by simp only [World.cell?, h.1]

theorem Alike.froz {X W : World} (h : Alike X W) (a : Addr) : W.frozen? a = X.frozen? a := by simp only [World.frozen?, h.1]

/-- A cell that holds a number, and may be written. -/
def NumAt (w : World) (p : Nat × Nat) : Prop := (∃ x : Int, w.cell? ⟨p.1, p.2, none⟩ = some (.int .i64 x)) ∧ w.frozen? ⟨p.1, p.2, none⟩ = false

theorem NumAt.set {w : World} {p : Nat × Nat} (h : NumAt w p) (p' : Nat × Nat) (n : Int) : NumAt (w.setCell ⟨p'.1, p'.2, none⟩ (.int .i64 n)) p := by
  obtain ⟨⟨x, h1⟩, h2⟩ := h
  refine ⟨?_, by rw [World.frozen?_setCell]; exact h2⟩
  by_cases e : (⟨p'.1, p'.2, none⟩ : Addr) = ⟨p.1, p.2, none⟩
  · rw [e]
    exact ⟨n, World.cell?_setCell_same _ _ _ h1⟩
  · exact ⟨x, by rw [World.cell?_setCell_other _ _ _ _ (fun h => e h)]; exact h1⟩

/-- What is read stays while a cell that holds a number is written. -/
theorem Rd.setNum {w : World} {v : Value} {m : List UInt8} (h : Rd w v m) {p : Nat × Nat} (hp : NumAt w p) (x : Value) : Rd (w.setCell ⟨p.1, p.2, none⟩ x) v m := by
  obtain ⟨va, vc, h1, h2, h3, hn, h4⟩ := h
  refine ⟨va, vc, h1, h2, h3, hn, ?_⟩
  rcases h4 with h4 | ⟨c, off, h5, h6⟩
  · exact .inl h4
  · refine .inr ⟨c, off, h5, fun j hj => ?_⟩
    have hc := h6 j hj
    rw [World.cell?_setCell_other w ⟨p.1, p.2, none⟩ ⟨c, off + j, none⟩ x (fun e => by
      obtain ⟨⟨y, hy⟩, -⟩ := hp
      rw [e, hc] at hy
      cases hy)]
    exact hc

/-- Numbers written at places. -/
def setAt (w : World) : List (Nat × Nat) → List Nat → World
  | p :: ps, n :: ns => setAt (w.setCell ⟨p.1, p.2, none⟩ (.int .i64 (n : Int))) ps ns
  | _, _ => w

theorem setAt_snoc : ∀ (w : World) (ps : List (Nat × Nat)) (ns : List Nat) (p : Nat × Nat) (n : Nat), ps.length = ns.length → setAt w (ps ++ [p]) (ns ++ [n]) = (setAt w ps ns).setCell ⟨p.1, p.2, none⟩ (.int .i64 (n : Int))
  | w, [], [], p, n, _ => rfl
  | w, q :: ps, m :: ns, p, n, h => by
    rw [List.cons_append, List.cons_append, setAt, setAt_snoc _ ps ns p n (by simpa using h), setAt]

theorem setAt_num : ∀ (w : World) (ps : List (Nat × Nat)) (ns : List Nat) {p : Nat × Nat}, NumAt w p → NumAt (setAt w ps ns) p
  | w, [], _, p, h => by cases ‹List Nat› <;> exact h
  | w, q :: ps, [], p, h => h
  | w, q :: ps, m :: ns, p, h => by
    rw [setAt]
    exact setAt_num _ ps ns (h.set q m)

theorem setAt_block : ∀ (w : World) (ps : List (Nat × Nat)) (ns : List Nat) (k : Nat), (∀ p ∈ ps, p.1 ≠ k) → (setAt w ps ns).heap[k]? = w.heap[k]?
  | w, [], ns, k, _ => by cases ns <;> rfl
  | w, q :: ps, [], k, _ => rfl
  | w, q :: ps, m :: ns, k, h => by
    rw [setAt, setAt_block _ ps ns k (fun p hp => h p (by simp [hp]))]
    exact Below.heap_setCell _ _ _ _ (fun e => h q (by simp) e.symm)

theorem setAt_below : ∀ (w : World) (ps : List (Nat × Nat)) (ns : List Nat) (B : Nat) (w0 : World), (∀ p ∈ ps, B ≤ p.1) → Below B w0 w → Below B w0 (setAt w ps ns)
  | w, [], ns, B, w0, _, h => by cases ns <;> exact h
  | w, q :: ps, [], B, w0, _, h => h
  | w, q :: ps, m :: ns, B, w0, hp, h => by
    rw [setAt]
    exact setAt_below _ ps ns B w0 (fun p h => hp p (by simp [h])) (h.setCell (hp q (by simp)) _)

/-- What getNumbers answers. -/
def GotNs (w : World) (v : Value) (b : List UInt8) (ps : List (Nat × Nat)) (r : Option (List Nat × List UInt8)) (e : Ending) (w' : World) : Prop :=
  ∃ (v' : Value) (l : List UInt8) (ns : List Nat), e = .returned (.tuple #[v', .bool r.isSome]) ∧ (∀ W, Rd W v b → Rd W v' l) ∧ (r = none → l = []) ∧ (∀ x, r = some x → x = (ns, l)) ∧ (∀ n ∈ ns, n < 4611686018427387904) ∧ ns.length ≤ ps.length ∧ Alike (setAt w (ps.take ns.length) ns) w'

theorem setAt_rd : ∀ (w : World) (ps : List (Nat × Nat)) (ns : List Nat) {v : Value} {m : List UInt8}, (∀ p ∈ ps, NumAt w p) → Rd w v m → Rd (setAt w ps ns) v m
  | w, [], ns, v, m, _, h => by cases ns <;> exact h
  | w, q :: ps, [], v, m, _, h => h
  | w, q :: ps, k :: ns, v, m, hp, h => by
    rw [setAt]
    exact setAt_rd _ ps ns (fun p hh => (hp p (by simp [hh])).set q k) (h.setNum (hp q (by simp)) _)

theorem cut_from (ao : Option Addr) (l : List UInt8) (cap : Nat) (hlc : l.length ≤ cap) (d : Nat) (hd : d ≤ l.length) :
    ∃ xa xc, (∀ W, (Instr.sliceAt 30 (.slice ao l.length cap) (some (.int .i64 (d : Int))) none none).run Try.prog W = .ok (.slice xa (l.drop d).length xc) W) ∧ ∀ W, Rd W (.slice ao l.length cap) l → Rd W (.slice xa (l.drop d).length xc) (l.drop d) := by
  have hsl : ∃ xa xc, sliced ao d l.length cap 1 = .slice xa (l.length - d) xc := by
    unfold sliced
    exact ⟨_, _, rfl⟩
  obtain ⟨xa, xc, hsl⟩ := hsl
  refine ⟨xa, xc, fun W => ?_, fun W h => ?_⟩
  · rw [run_sliceAt_slice W 30 _ _ _ _ under_bytes, run_slice_l W 30 ao l.length cap under_bytes .i64 (d : Int) (by omega) (by omega), elem_bytes, size_u8, List.length_drop, ← hsl]
    rfl
  · rw [List.length_drop, ← hsl]
    have h2 := h.mid d l.length cap hd (Nat.le_refl _) hlc (Nat.le_refl _)
    rw [List.take_of_length_le (by simp)] at h2
    exact h2

theorem getsL_step {n : Nat} {b : List UInt8} (h : (dec62 b).2 ≠ 0) : getsL (n + 1) b = (getsL n (b.drop (dec62 b).2)).map (fun r => ((dec62 b).1 :: r.1, r.2)) := by rw [getsL, if_neg h]

theorem getsL_stop {n : Nat} {b : List UInt8} (h : (dec62 b).2 = 0) : getsL (n + 1) b = none := by rw [getsL, if_pos h]

set_option maxRecDepth 100000 in
set_option maxHeartbeats 4000000 in
theorem getNumbers_any (N : Nat) (ps : List (Nat × Nat)) (v : Value) (b : List UInt8) (w : World) (hr : Rd w v b) (hps : ∀ p ∈ ps, NumAt w p ∧ p.1 ≠ N) (hlim : ps.length ≤ 100)
    (hN : w.heap[N]? = some (.cells (ps.map (fun p => Value.pointer (some ⟨p.1, p.2, none⟩))).toArray 101 (0, 0))) (k : Nat) (hk : k = ps.length) :
    Calls Try.prog 82 #[v, .slice (some ⟨N, 0, none⟩) k k] w fun e w' => GotNs w v b ps (getsL ps.length b) e w' := by
  subst hk
  have HPS := hide hps
  have HN : Hid (∀ q, q < ps.length → w.cell? ⟨N, q, none⟩ = some (.pointer (some ⟨(ps.getD q (0, 0)).1, (ps.getD q (0, 0)).2, none⟩))) := hide (fun q hq => by
    rw [cell_of_row w N q _ _ _ hN]
    simp [List.getD, hq])
  have HNS : Hid (∀ ns, (setAt w (ps.take (List.length ns)) ns).heap[N]? = w.heap[N]?) := hide (fun ns => setAt_block w _ ns N (fun p hp => (hps p (List.mem_of_mem_take hp)).2))
  have HG := hide (fun v1 l W h => get_any v1 l W h)
  have HR : Hid (∀ ns, Rd (setAt w (ps.take (List.length ns)) ns) v b) := hide (fun ns => setAt_rd w _ ns (fun p hp => (hps p (List.mem_of_mem_take hp)).1) hr)
  obtain ⟨va, vc, hv⟩ : ∃ a c, v = .slice a b.length c := by obtain ⟨a, c, h, -⟩ := hr; exact ⟨a, c, h⟩
  subst hv
  obtain ⟨GL, hGL⟩ : ∃ GL, GL = getsL ps.length b := ⟨_, rfl⟩
  rw [← hGL]
  have HGL0 : Hid (GL = (getsL (ps.length - 0) b).map (fun r => ([] ++ r.1, r.2))) := hide (by
    rw [hGL, Nat.sub_zero]
    cases getsL ps.length b <;> rfl)
  clear hGL hps hr hN
  have hpi : (ps.length : Int) ≤ 100 := by omega
  go_enter Try.func82, Try.ntmps82
  go_wp2
  go_loopw [0, 12] (fun vb vi wr => ∃ (q : Nat) (ns : List Nat) (b' : List UInt8) (a : Option Addr) (c : Nat), vi = .int .i64 (q : Int) ∧ vb = .slice a b'.length c ∧ q ≤ ps.length ∧ ns.length = q ∧ Hid (∀ W, Rd W (.slice va b.length vc) b → Rd W (.slice a b'.length c) b') ∧ Hid (Alike (setAt w (ps.take ns.length) ns) wr) ∧ Hid (∀ n ∈ ns, n < 4611686018427387904) ∧ Hid (GL = (getsL (ps.length - q) b').map (fun r => (ns ++ r.1, r.2)))) (fun _ vi _ => ps.length - (intOf vi).toNat)
  case atStart => exact ⟨0, [], b, va, vc, rfl, rfl, Nat.zero_le _, rfl, hide (fun W h => h), hide (by rw [List.length_nil, List.take_zero]; exact Alike.refl w), hide (fun n h => by simp at h), HGL0⟩
  case round =>
    clear HGL0
    obtain ⟨q, ns, b', a, c, rfl, rfl, hq, hns, hV, hA, hNs, hGL⟩ := hrel
    have hR : Hid (Rd wr (.slice a b'.length c) b') := hide (hV.out wr ((HR.out ns).below (hA.out.below (setAt w (ps.take ns.length) ns).heap.size) (Nat.le_refl _)))
    have HNQ := hide hns
    by_cases hlt : q < ps.length
    case neg =>
      obtain rfl : q = ps.length := by omega
      have HF : Hid (GL = some (ns, b')) := hide (by
        rw [hGL.out, Nat.sub_self]
        simp [getsL])
      clear hns
      go_wp2
      go_ret2
      rw [HF.out]
      exact ⟨_, b', ns, rfl, hV.out, (fun h => by cases h), (fun x h => by injection h with h; exact h.symm), hNs.out, by rw [HNQ.out]; exact Nat.le_refl _, hA.out⟩
    have hqi : (q : Int) < (ps.length : Int) := by omega
    have hsub : ps.length - q = (ps.length - (q + 1)) + 1 := by omega
    have hcN : wr.cell? ⟨N, q, none⟩ = some (.pointer (some ⟨(ps.getD q (0, 0)).1, (ps.getD q (0, 0)).2, none⟩)) := by
      rw [hA.out.cell]
      exact (World.cell?_of_block (a := ⟨N, q, none⟩) (HNS.out ns)).trans (HN.out q hlt)
    have hmem : ps.getD q (0, 0) ∈ ps := by
      rw [show ps.getD q (0, 0) = ps[q] by simp [List.getD, hlt]]
      exact List.getElem_mem hlt
    have hnw : NumAt (setAt w (ps.take ns.length) ns) (ps.getD q (0, 0)) := setAt_num w _ ns (HPS.out _ hmem).1
    have hnr : NumAt wr (ps.getD q (0, 0)) := ⟨by
      obtain ⟨x, hx⟩ := hnw.1
      exact ⟨x, by rw [hA.out.cell]; exact hx⟩, by rw [hA.out.froz]; exact hnw.2⟩
    have HSN : Hid (∀ n : Nat, setAt w (ps.take (ns ++ [n]).length) (ns ++ [n]) = (setAt w (ps.take ns.length) ns).setCell ⟨(ps.getD q (0, 0)).1, (ps.getD q (0, 0)).2, none⟩ (.int .i64 (n : Int))) := hide (fun n => by
      have e1 : ps.take (ns ++ [n]).length = ps.take ns.length ++ [ps.getD q (0, 0)] := by
        rw [List.length_append, List.length_singleton, HNQ.out, List.take_add_one, List.getElem?_eq_getElem hlt]
        simp [List.getD, hlt]
      rw [e1, setAt_snoc w _ ns _ n (by rw [List.length_take, HNQ.out]; omega)])
    have HNR := hide hnr
    obtain ⟨⟨x0, hx0⟩, hf0⟩ := hnr
    clear hmem hnw HN HNS HPS hns
    generalize ps.getD q (0, 0) = p at *
    obtain ⟨pb, po⟩ := p
    dsimp only at hcN hx0 hf0 HSN
    have HGQ := hide (HG.out _ b' wr hR.out)
    have hdl := dec62_le b'
    have hdn : (dec62 b').1 < 4611686018427387904 := by
      rcases dec62_cases b' with h | h
      · rw [h]; decide
      · exact h.1
    have HST := hide (getsL_step (n := ps.length - (q + 1)) (b := b'))
    have HSO := hide (getsL_stop (n := ps.length - (q + 1)) (b := b'))
    rw [← hsub] at HST HSO
    have HCF := hide (fun d hd => cut_from a b' c (by obtain ⟨a', c', h, h2, -⟩ := hR.out; simp only [Value.slice.injEq] at h; omega) d hd)
    generalize (dec62 b').2 = d at *
    generalize (dec62 b').1 = n at *
    clear HG
    by_cases hd : d = 0
    · subst hd
      have HF : Hid (GL = none) := hide (by rw [hGL.out, HSO.out rfl]; rfl)
      go_wp2_with fail
      refine HGQ.out.mono ?_
      rintro e W1 ⟨rfl, hw1⟩
      rw [hw1]
      clear hw1 W1
      go_wp2
      go_ret2
      rw [HF.out]
      exact ⟨_, [], ns, rfl, (fun W _ => Rd.nil W), (fun _ => rfl), (fun x h => by cases h), hNs.out, by rw [HNQ.out]; omega, hA.out⟩
    · have hde : ((d : Int) == 0) = false := beq_eq_false_iff_ne.2 (by omega)
      obtain ⟨xa, xc, hcut, hcr⟩ := HCF.out d hdl
      have HCR := hide hcr
      have HF : Hid (GL = (getsL (ps.length - (q + 1)) (b'.drop d)).map (fun r => ((ns ++ [n]) ++ r.1, r.2))) := hide (by
        rw [hGL.out, HST.out hd]
        cases getsL (ps.length - (q + 1)) (b'.drop d) with
        | none => rfl
        | some r => simp)
      clear hcr HST HSO hGL hd HCF
      generalize b'.drop d = b2 at *
      go_wp2_with fail
      refine HGQ.out.mono ?_
      rintro e W1 ⟨rfl, hw1⟩
      rw [hw1]
      clear hw1 W1
      go_wp2
      go_region
      all_goals
        go_wp2
        go_roundw
        case rel => exact ⟨q + 1, ns ++ [n], b2, xa, xc, by go_num, rfl, by omega, by rw [List.length_append, List.length_singleton, HNQ.out], hide (fun W h => HCR.out W (hV.out W h)), hide (by rw [HSN.out]; exact hA.out.drew.set _ _), hide (fun m hm => by
          rcases List.mem_append.1 hm with h | h
          · exact hNs.out m h
          · rw [List.mem_singleton.1 h]; exact hdn), HF⟩
        case measure => simp [intOf]; omega

end Go.Proofs.Ytanmjihiceibbaa

/- Contract of snapshot: getEntry. -/
namespace Go.Proofs.Ytanmjihiceibbaa
open Go.RowKit

/-- The entry that bytes begin with, and what is left. -/
def step1 (b : List UInt8) : Option (Ent × List UInt8) :=
  match getsL 2 b with
  | none => none
  | some (ns, l) => if (dec64 l).2 = 0 then none else some (⟨((ns.getD 0 0 : Nat) : Int), ((ns.getD 1 0 : Nat) : Int), zag (dec64 l).1⟩, l.drop (dec64 l).2)

theorem getsL_one (b : List UInt8) : getsL 1 b = if (dec62 b).2 = 0 then none else some ([(dec62 b).1], b.drop (dec62 b).2) := rfl

theorem getsL_two (b : List UInt8) : getsL 2 b = if (dec62 b).2 = 0 then none else if (dec62 (b.drop (dec62 b).2)).2 = 0 then none else some ([(dec62 b).1, (dec62 (b.drop (dec62 b).2)).1], (b.drop (dec62 b).2).drop (dec62 (b.drop (dec62 b).2)).2) := by
  rw [getsL]
  split
  · rfl
  · rw [getsL_one]
    split <;> rfl

theorem readE_step1 (n : Nat) (b : List UInt8) : readE (n + 1) b = (step1 b).bind (fun y => (readE n y.2).map (fun r => (y.1 :: r.1, r.2))) := by
  have h : readE (n + 1) b = if (dec62 b).2 = 0 ∨ (dec62 (b.drop (dec62 b).2)).2 = 0 ∨ (dec64 (b.drop ((dec62 b).2 + (dec62 (b.drop (dec62 b).2)).2))).2 = 0 then none
    else (readE n (b.drop ((dec62 b).2 + (dec62 (b.drop (dec62 b).2)).2 + (dec64 (b.drop ((dec62 b).2 + (dec62 (b.drop (dec62 b).2)).2))).2))).map (fun r => (⟨(dec62 b).1, (dec62 (b.drop (dec62 b).2)).1, zag (dec64 (b.drop ((dec62 b).2 + (dec62 (b.drop (dec62 b).2)).2))).1⟩ :: r.1, r.2)) := rfl
  rw [h]
  unfold step1
  rw [getsL_two]
  by_cases h1 : (dec62 b).2 = 0
  · rw [if_pos (.inl h1), if_pos h1]
    rfl
  rw [if_neg h1]
  by_cases h2 : (dec62 (b.drop (dec62 b).2)).2 = 0
  · rw [if_pos (.inr (.inl h2)), if_pos h2]
    rfl
  rw [if_neg h2]
  simp only [List.drop_drop]
  by_cases h3 : (dec64 (b.drop ((dec62 b).2 + (dec62 (b.drop (dec62 b).2)).2))).2 = 0
  · rw [if_pos (.inr (.inr h3)), if_pos h3]
    rfl
  · rw [if_neg (by omega), if_neg h3]
    rfl

/-- What getEntry answers. -/
def GotE (w : World) (v : Value) (b : List UInt8) (e : Ending) (w' : World) : Prop :=
  ∃ (x : Ent) (v' : Value) (l : List UInt8), e = .returned (.tuple #[entV x, v', .bool (step1 b).isSome]) ∧ EntI x ∧ (∀ W, Rd W v b → Rd W v' l) ∧ (∀ y, step1 b = some y → y = (x, l)) ∧ Below w.heap.size w w'

theorem dec64_nilE : dec64 [] = (0, 0) := by decide

/-- The box of an entry, some of whose first two numbers are written. -/
theorem box_two {W : World} {R : Nat} (h : Be W R #[.int .i64 0, .int .i64 0, .int .i64 0]) (ns : List Nat) (hn : ns.length ≤ 2) (hns : ∀ n ∈ ns, n < 4611686018427387904) :
    ∃ x y : Int, Be (setAt W ([(R, 0), (R, 1)].take ns.length) ns) R #[.int .i64 x, .int .i64 y, .int .i64 0] ∧ I64 x ∧ I64 y ∧ (ns.length = 2 → x = ((ns.getD 0 0 : Nat) : Int) ∧ y = ((ns.getD 1 0 : Nat) : Int)) := by
  have i0 : I64 0 := i64_small (by decide) (by decide)
  match ns, hn, hns with
  | [], _, _ => exact ⟨0, 0, h, i0, i0, fun h => absurd h (by simp)⟩
  | [n], _, hns =>
    have := hns n (by simp)
    refine ⟨(n : Int), 0, ?_, ⟨by omega, by omega⟩, i0, fun h => absurd h (by simp)⟩
    have h2 := heap_setCell_same W R 0 _ _ (.int .i64 (n : Int)) h
    exact h2
  | [n, m], _, hns =>
    have h1 := hns n (by simp)
    have h2 := hns m (by simp)
    refine ⟨(n : Int), (m : Int), ?_, ⟨by omega, by omega⟩, ⟨by omega, by omega⟩, fun _ => ⟨rfl, rfl⟩⟩
    have h3 := heap_setCell_same W R 0 _ _ (.int .i64 (n : Int)) h
    exact heap_setCell_same _ R 1 _ _ (.int .i64 (m : Int)) h3

theorem three_new (w : World) (x y z : Obj) : ((((w.alloc x).alloc y).alloc z).heap[w.heap.size]? = some x ∧ (((w.alloc x).alloc y).alloc z).heap[w.heap.size + 1]? = some y ∧ (((w.alloc x).alloc y).alloc z).heap[w.heap.size + 2]? = some z) := by
  refine ⟨?_, ?_, ?_⟩
  · exact ((Below.heap_alloc _ _ _ (by simp; omega)).trans (Below.heap_alloc _ _ _ (by simp))).trans (heap_alloc_new w x)
  · refine (Below.heap_alloc _ _ _ (by simp)).trans ?_
    have := heap_alloc_new (w.alloc x) y
    simpa using this
  · have := heap_alloc_new ((w.alloc x).alloc y) z
    simpa using this

theorem Be.set {w : World} {b : Nat} {cs : Array Value} (h : Be w b cs) (j : Nat) (x : Value) : Be (w.setCell ⟨b, j, none⟩ x) b (cs.setIfInBounds j x) := by
  have := heap_setCell_same w b j _ _ x h
  unfold Be
  simpa using this

theorem Be.other {w : World} {b c : Nat} {cs : Array Value} (h : Be w b cs) (j : Nat) (x : Value) (hne : b ≠ c) : Be (w.setCell ⟨c, j, none⟩ x) b cs := (Below.heap_setCell _ _ _ _ hne).trans h

theorem belowTri {C : Nat} {w0 w : World} (h : Below C w0 w) (R : Nat) (hR : C ≤ R) (x0 x1 x2 : Value) : Below C w0 (((w.setCell ⟨R, 0, none⟩ x0).setCell ⟨R, 1, none⟩ x1).setCell ⟨R, 2, none⟩ x2) :=
  ((h.setCell hR _).setCell hR _).setCell hR _

set_option maxRecDepth 100000 in
set_option maxHeartbeats 4000000 in
theorem getEntry_any (v : Value) (b : List UInt8) (w : World) (hr : Rd w v b) :
    Calls Try.prog 115 #[v] w fun e w' => GotE w v b e w' := by
  obtain ⟨W0, hW0⟩ : ∃ W0, W0 = ((w.alloc (.cells #[.int .i64 0, .int .i64 0, .int .i64 0] 48)).alloc (.cells #[.int .i64 0, .int .i64 0, .int .i64 0] 48)).alloc (.cells #[.pointer (some ⟨w.heap.size + 1, 0, none⟩), .pointer (some ⟨w.heap.size + 1, 1, none⟩)] 101) := ⟨_, rfl⟩
  have h3 := three_new w (.cells #[.int .i64 0, .int .i64 0, .int .i64 0] 48) (.cells #[.int .i64 0, .int .i64 0, .int .i64 0] 48) (.cells #[.pointer (some ⟨w.heap.size + 1, 0, none⟩), .pointer (some ⟨w.heap.size + 1, 1, none⟩)] 101)
  rw [← hW0] at h3
  obtain ⟨hA, hB, hC⟩ := h3
  have HB0 : Hid (Below w.heap.size w W0) := hide (by rw [hW0]; exact (((Below.refl _ _).alloc (Nat.le_refl _) _).alloc (by simp) _).alloc (by simp; omega) _)
  have hEA : Be W0 w.heap.size #[.int .i64 0, .int .i64 0, .int .i64 0] := hA
  have hEB : Be W0 (w.heap.size + 1) #[.int .i64 0, .int .i64 0, .int .i64 0] := hB
  have HEA := hide hEA
  have HGN := hide (getNumbers_any (w.heap.size + 1 + 1) [(w.heap.size + 1, 0), (w.heap.size + 1, 1)] v b W0 (hr.below HB0.out (Nat.le_refl _)) (fun p hp => by
    simp only [List.mem_cons, List.not_mem_nil, or_false] at hp
    rcases hp with rfl | rfl
    · exact ⟨⟨⟨0, (hEB.cell 0).1⟩, (hEB.cell 0).2⟩, by simp⟩
    · exact ⟨⟨⟨0, (hEB.cell 1).1⟩, (hEB.cell 1).2⟩, by simp⟩) (by simp) hC 2 rfl)
  have HBX := hide (fun ns => box_two hEB ns)
  have HSB : Hid (∀ ns, Below w.heap.size w (setAt W0 ([(w.heap.size + 1, 0), (w.heap.size + 1, 1)].take (List.length ns)) ns)) := hide (fun ns => setAt_below W0 _ ns _ w (fun p hp => by
    have := List.mem_of_mem_take hp
    simp only [List.mem_cons, List.not_mem_nil, or_false] at this
    rcases this with rfl | rfl <;> simp) HB0.out)
  have HSA : Hid (∀ ns, Be (setAt W0 ([(w.heap.size + 1, 0), (w.heap.size + 1, 1)].take (List.length ns)) ns) w.heap.size #[.int .i64 0, .int .i64 0, .int .i64 0]) := hide (fun ns => (setAt_block W0 _ ns _ (fun p hp => by
    have := List.mem_of_mem_take hp
    simp only [List.mem_cons, List.not_mem_nil, or_false] at this
    rcases this with rfl | rfl <;> simp)).trans hEA)
  have HG := hide (fun v1 l W h => getSigned_any v1 l W h)
  have HST : Hid (step1 b = match getsL [(w.heap.size + 1, 0), (w.heap.size + 1, 1)].length b with | none => none | some (ns, l) => if (dec64 l).2 = 0 then none else some (⟨((ns.getD 0 0 : Nat) : Int), ((ns.getD 1 0 : Nat) : Int), zag (dec64 l).1⟩, l.drop (dec64 l).2)) := hide rfl
  have HLN : Hid (∀ ns l, getsL [(w.heap.size + 1, 0), (w.heap.size + 1, 1)].length b = some (ns, l) → ns.length = 2) := hide (fun ns l h => by
    have h2 : getsL 2 b = some (ns, l) := h
    rw [getsL_two] at h2
    split at h2
    · cases h2
    split at h2
    · cases h2
    injection h2 with h2
    injection h2 with h2 _
    rw [← h2]
    rfl)
  unfold GotE
  obtain ⟨S1, hS1⟩ : ∃ S1, S1 = step1 b := ⟨_, rfl⟩
  rw [← hS1] at HST ⊢
  obtain ⟨ok, hok⟩ : ∃ ok, ok = S1.isSome := ⟨_, rfl⟩
  rw [← hok]
  have HOKS := hide hok
  clear hok
  generalize getsL [(w.heap.size + 1, 0), (w.heap.size + 1, 1)].length b = GL at *
  have HRW := hide hr
  obtain ⟨va, vc, hv⟩ : ∃ a c, v = .slice a b.length c := by obtain ⟨a, c, h, -⟩ := hr; exact ⟨a, c, h⟩
  subst hv
  clear hr hA hB hC hEA hEB hS1
  go_enter Try.func115, Try.ntmps115
  go_wp2_with fail
  rw [← hW0]
  refine HGN.out.mono ?_
  rintro e W1 ⟨v1, l, ns, rfl, hr1, hn1, hs1, hlt1, hle1, hal1⟩
  obtain ⟨x, y, hbx, hxi, hyi, hxy⟩ := HBX.out ns hle1 hlt1
  have HE1 : Hid (Be W1 (w.heap.size + 1) #[.int .i64 x, .int .i64 y, .int .i64 0]) := hide (hbx.below (hal1.below (setAt W0 ([(w.heap.size + 1, 0), (w.heap.size + 1, 1)].take ns.length) ns).heap.size) (Nat.le_refl _))
  have HA1 : Hid (Be W1 w.heap.size #[.int .i64 0, .int .i64 0, .int .i64 0]) := hide ((HSA.out ns).below (hal1.below (setAt W0 ([(w.heap.size + 1, 0), (w.heap.size + 1, 1)].take ns.length) ns).heap.size) (Nat.le_refl _))
  have HB1 : Hid (Below w.heap.size w W1) := hide ((HSB.out ns).trans (hal1.below _))
  have HR1 := hide (hr1 W1 (HRW.out.below HB1.out (Nat.le_refl _)))
  have HV1 := hide hr1
  obtain ⟨a1, c1, hv1⟩ : ∃ a c, v1 = .slice a l.length c := by obtain ⟨a, c, h, -⟩ := HR1.out; exact ⟨a, c, h⟩
  subst hv1
  have hcap : l.length ≤ c1 := by
    obtain ⟨a', c', h, h2, -⟩ := HR1.out
    simp only [Value.slice.injEq] at h
    omega
  have HGQ := hide (HG.out _ l W1 HR1.out)
  have hkl := dec64_le l
  have hZI : I64 (zag (dec64 l).1) := zag_i64 (dec64_lt l)
  obtain ⟨xa, xc, hcut, hcr⟩ := cut_from a1 l c1 hcap (dec64 l).2 hkl
  have HCR := hide (fun W h => hcr W (HV1.out W h))
  have HOK : Hid (S1.isSome = decide (0 < (dec64 l).2)) := hide (by
    rw [HST.out]
    cases GL with
    | none => rw [hn1 rfl, dec64_nilE]; rfl
    | some p =>
      have := hs1 p rfl
      subst this
      dsimp only
      by_cases h : (dec64 l).2 = 0
      · rw [if_pos h, h]; rfl
      · rw [if_neg h, decide_eq_true (by omega)]; rfl)
  have HSO : Hid (∀ z, S1 = some z → z = (⟨x, y, zag (dec64 l).1⟩, l.drop (dec64 l).2)) := hide (fun z hz => by
    rw [HST.out] at hz
    cases GL with
    | none => cases hz
    | some p =>
      have := hs1 p rfl
      subst this
      obtain ⟨h1, h2⟩ := hxy (HLN.out ns l rfl)
      dsimp only at hz
      split at hz
      · cases hz
      · injection hz with hz
        rw [← hz, h1, h2])
  have HXI : Hid (EntI ⟨x, y, zag (dec64 l).1⟩) := hide ⟨hxi, hyi, hZI⟩
  clear hr1 hn1 hs1 hlt1 hle1 hal1 hbx hxy HST HLN HSB HSA HBX HGN HG hcr hcap HB0 HEA hW0 hxi hyi hZI
  generalize zag (dec64 l).1 = z at *
  generalize (dec64 l).2 = k at *
  generalize l.drop k = l2 at *
  have hk1 : S1.isSome = decide ((0 : Int) < (k : Int)) := by rw [HOK.out]; exact decide_eq_decide.2 (by omega)
  rw [← HOKS.out] at hk1
  have HK1 : Hid (decide (0 < k) = ok) := hide (by rw [HOKS.out, HOK.out])
  clear HOKS hk1 HOK
  go_wp2_with fail
  refine HGQ.out.mono ?_
  rintro e W2 ⟨rfl, hw2⟩
  rw [hw2]
  clear hw2 W2 HGQ
  have HE2 : Hid (Be (W1.setCell ⟨w.heap.size + 1, 2, none⟩ (.int .i64 z)) (w.heap.size + 1) #[.int .i64 x, .int .i64 y, .int .i64 z]) := hide (HE1.out.set 2 _)
  have HA2 : Hid (Be (W1.setCell ⟨w.heap.size + 1, 2, none⟩ (.int .i64 z)) w.heap.size #[.int .i64 0, .int .i64 0, .int .i64 0]) := hide (HA1.out.other 2 _ (by omega))
  obtain ⟨e2, f2⟩ := HE1.out.cell 2
  have HB2 : Hid (Below w.heap.size w (W1.setCell ⟨w.heap.size + 1, 2, none⟩ (.int .i64 z))) := hide (HB1.out.setCell (Nat.le_succ _) _)
  go_upto_region 5 with fail
  obtain ⟨W3, hW3⟩ : ∃ W3, W3 = W1.setCell ⟨w.heap.size + 1, 2, none⟩ (.int .i64 z) := ⟨_, rfl⟩
  rw [← hW3] at HE2 HA2 HB2 ⊢
  clear hW3 e2 f2 HE1 HA1 HB1 HR1
  obtain ⟨x0, g0⟩ := HE2.out.cell 0
  obtain ⟨x1, g1⟩ := HE2.out.cell 1
  obtain ⟨x2, g2⟩ := HE2.out.cell 2
  obtain ⟨y0, m0⟩ := HA2.out.cell 0
  obtain ⟨y1, m1⟩ := HA2.out.cell 1
  obtain ⟨y2, m2⟩ := HA2.out.cell 2
  have hne1 : ¬ (w.heap.size = w.heap.size + 1) := by omega
  have hne2 : ¬ (w.heap.size + 1 = w.heap.size) := by omega
  have hbs := belowTri HB2.out.drew w.heap.size (Nat.le_refl _) (.int .i64 x) (.int .i64 y) (.int .i64 z)
  have HBS := hide hbs
  clear hbs HB2 HA2 HE2
  go_region
  all_goals
    go_wp2
    refine bodyPost_ret (v := .tuple #[.agg #[.int .i64 x, .int .i64 y, .int .i64 z], .slice xa l2.length xc, .bool ok]) (by simp [results, Try.results115, go_sem, y0, y1, y2, HK1.out]) rfl ?_
    exact ⟨⟨x, y, z⟩, _, l2, rfl, HXI.out, HCR.out, HSO.out, HBS.out⟩

end Go.Proofs.Ytanmjihiceibbaa

/- Contract of ferrymanref09: table. -/
namespace Go.Proofs.Ytanmjihiceibbaa
open Go.RowKit

/-- What a table's bytes tell: whether they are one, and the entries. -/
def TabledN (w : World) (TL : Option (List Ent)) (e : Ending) (w' : World) : Prop :=
  ∃ vt t, e = .returned (.tuple #[vt, .bool TL.isSome]) ∧ OwnE w' w.heap.size vt t ∧ (∀ e ∈ t, EntI e) ∧ (∀ t', TL = some t' → t = t') ∧ Below w.heap.size w w'

/-- Where the reading of a table stands: so many are left to be read. -/
def TabAtE (b : List UInt8) (many : Nat) (t : List Ent) (at' : Nat) : Prop :=
  readE many (b.drop (dec62 b).2) = (readE (many - t.length) (b.drop at')).map (fun r => (t ++ r.1, r.2))

theorem readE_eq (n : Nat) (b : List UInt8) : readE (n + 1) b = if (dec62 b).2 = 0 ∨ (dec62 (b.drop (dec62 b).2)).2 = 0 ∨ (dec64 (b.drop ((dec62 b).2 + (dec62 (b.drop (dec62 b).2)).2))).2 = 0 then none
    else (readE n (b.drop ((dec62 b).2 + (dec62 (b.drop (dec62 b).2)).2 + (dec64 (b.drop ((dec62 b).2 + (dec62 (b.drop (dec62 b).2)).2))).2))).map (fun r => (⟨(dec62 b).1, (dec62 (b.drop (dec62 b).2)).1, zag (dec64 (b.drop ((dec62 b).2 + (dec62 (b.drop (dec62 b).2)).2))).1⟩ :: r.1, r.2)) := rfl

theorem tableL_eq {b : List UInt8} (h0 : (dec62 b).2 ≠ 0) (h1 : (dec62 b).1 ≤ b.length) : tableL b = (readE (dec62 b).1 (b.drop (dec62 b).2)).bind (fun r => if r.2 = [] then some r.1 else none) := by
  unfold tableL
  rw [if_neg (by omega)]
  cases readE (dec62 b).1 (b.drop (dec62 b).2) with
  | none => rfl
  | some p =>
    obtain ⟨t, x⟩ := p
    cases x <;> rfl

end Go.Proofs.Ytanmjihiceibbaa

/- Contract of snapshot: readTable. -/
namespace Go.Proofs.Ytanmjihiceibbaa
open Go.RowKit

/-- How far the reading of a table is from its end. -/
def leftM (v6 v7 : Value) : Nat :=
  match v7 with
  | .bool true => (match v6 with
    | .slice _ n _ => n + 1
    | _ => 0)
  | _ => 0

theorem leftM_true (a : Option Addr) (n c : Nat) : leftM (.slice a n c) (.bool true) = n + 1 := rfl

theorem leftM_false (v : Value) : leftM v (.bool false) = 0 := rfl

theorem step1_less {b : List UInt8} {y : Ent × List UInt8} (h : step1 b = some y) : y.2.length + 1 ≤ b.length := by
  unfold step1 at h
  rw [getsL_two] at h
  split at h
  · cases h
  · rename_i ns l hg
    split at hg
    · cases hg
    · rename_i h1
      split at hg
      · cases hg
      · injection hg with hg
        injection hg with _ hl
        split at h
        · cases h
        · rename_i h3
          injection h with h
          rw [← h]
          have h4 := dec64_le l
          show (l.drop _).length + 1 ≤ _
          rw [List.length_drop]
          have h5 : l.length ≤ b.length := by
            rw [← hl, List.length_drop, List.length_drop]
            omega
          omega

theorem two_new' (w : World) (x y : Obj) : ((w.alloc x).alloc y).heap[w.heap.size]? = some x ∧ ((w.alloc x).alloc y).heap[w.heap.size + 1]? = some y := by
  refine ⟨(Below.heap_alloc _ _ _ (by simp)).trans (heap_alloc_new w x), ?_⟩
  have := heap_alloc_new (w.alloc x) y
  simpa using this

theorem getsL_some1 {b : List UInt8} {ns : List Nat} {l : List UInt8} (h : getsL 1 b = some (ns, l)) : (dec62 b).2 ≠ 0 ∧ ns = [(dec62 b).1] ∧ l = b.drop (dec62 b).2 := by
  rw [getsL_one] at h
  split at h
  · cases h
  · rename_i h1
    injection h with h
    injection h with h2 h3
    exact ⟨h1, h2.symm, h3.symm⟩

theorem getsL_none1 {b : List UInt8} (h : getsL 1 b = none) : (dec62 b).2 = 0 := by
  rw [getsL_one] at h
  split at h
  · assumption
  · cases h

theorem OwnE.butD {w w' : World} {B R T : Nat} {v : Value} {l : List Ent} (h : OwnE w B v l) (hb : But R T w w') (hn' : ∀ b, v.ownBlock = some b → b ≠ R ∧ b ≠ T) : OwnE w' B v l := by
  rcases h.row with ⟨rfl, rfl⟩ | ⟨g, cap, cur, rfl, hBg, hlt, hg, hn, hm, hs, hc⟩
  · exact OwnE.nil _ _
  · have := hn' g rfl
    exact OwnE.ofRow rfl hBg ((hb.block g hlt this.1 this.2).trans hg) hn hm hs hc

set_option maxRecDepth 100000 in
set_option maxHeartbeats 4000000 in
theorem readTable_any (v : Value) (b : List UInt8) (w : World) (hr : Rd w v b) (hlim : b.length ≤ 100000) :
    Calls Try.prog 87 #[v] w fun e w' => TabledN w (tableL b) e w' := by
  obtain ⟨W0, hW0⟩ : ∃ W0, W0 = (w.alloc (.cells #[.int .i64 0] 3)).alloc (.cells #[.pointer (some ⟨w.heap.size, 0, none⟩)] 101) := ⟨_, rfl⟩
  have h2 := two_new' w (.cells #[.int .i64 0] 3) (.cells #[.pointer (some ⟨w.heap.size, 0, none⟩)] 101)
  rw [← hW0] at h2
  obtain ⟨hA, hC⟩ := h2
  have HB0 : Hid (Below w.heap.size w W0) := hide (by rw [hW0]; exact ((Below.refl _ _).alloc (Nat.le_refl _) _).alloc (by simp) _)
  have HGN := hide (getNumbers_any (w.heap.size + 1) [(w.heap.size, 0)] v b W0 (hr.below HB0.out (Nat.le_refl _)) (fun p hp => by
    rw [List.mem_singleton.1 hp]
    exact ⟨⟨⟨0, cell_of_row W0 w.heap.size 0 _ _ _ hA⟩, frozen_of_row W0 w.heap.size 0 _ _ hA⟩, by simp⟩) (by simp) hC 1 rfl)
  have HSA : Hid (∀ n : Nat, (W0.setCell ⟨w.heap.size, 0, none⟩ (.int .i64 (n : Int))).cell? ⟨w.heap.size, 0, none⟩ = some (.int .i64 (n : Int))) := hide (fun n => World.cell?_setCell_same _ _ _ (cell_of_row W0 w.heap.size 0 _ _ _ hA))
  have HSB : Hid (∀ ns, Below w.heap.size w (setAt W0 ([(w.heap.size, 0)].take (List.length ns)) ns)) := hide (fun ns => setAt_below W0 _ ns _ w (fun p hp => by
    have := List.mem_of_mem_take hp
    rw [List.mem_singleton.1 this]
    exact Nat.le_refl _) HB0.out)
  have HGE := hide (fun v1 l W h => getEntry_any v1 l W h)
  have HTP := hide (tableL_plain (b := b))
  have HTN : Hid ((dec62 b).2 = 0 → tableL b = none) := hide (fun h => by unfold tableL; rw [if_pos (.inl h)])
  have HG1 := hide (fun ns l h => getsL_some1 (b := b) (ns := ns) (l := l) h)
  have HG0 := hide (fun h => getsL_none1 (b := b) h)
  have hd := dec62_le b
  have hdn : (dec62 b).1 < 4611686018427387904 := by
    rcases dec62_cases b with h | h
    · rw [h]; decide
    · exact h.1
  have HLEN : Hid ([(w.heap.size, 0)].length = 1) := hide rfl
  rw [HLEN.out] at HGN
  generalize getsL 1 b = GL at *
  obtain ⟨TL, hTL⟩ : ∃ TL, TL = tableL b := ⟨_, rfl⟩
  rw [← hTL] at HTP HTN ⊢
  clear hTL
  have HRW := hide hr
  obtain ⟨va, vc, hv⟩ : ∃ a c, v = .slice a b.length c := by obtain ⟨a, c, h, -⟩ := hr; exact ⟨a, c, h⟩
  subst hv
  clear hr hA hC HLEN
  go_enter Try.func87, Try.ntmps87
  go_wp2_with fail
  rw [← hW0]
  refine HGN.out.mono ?_
  rintro e W1 ⟨v1, l, ns, rfl, hr1, hn1, hs1, hlt1, hle1, hal1⟩
  have HB1 : Hid (Below w.heap.size w W1) := hide ((HSB.out ns).trans (hal1.below _))
  have HV1 := hide hr1
  obtain ⟨a1, c1, hv1⟩ : ∃ a c, v1 = .slice a l.length c := by obtain ⟨a, c, h, -⟩ := hr1 W1 (HRW.out.below HB1.out (Nat.le_refl _)); exact ⟨a, c, h⟩
  subst hv1
  clear HGN HSB HB0 hW0
  cases GL with
  | none =>
    have HF := hide (HTN.out (HG0.out rfl))
    have hl0 := hn1 rfl
    subst hl0
    clear hn1 hs1 hlt1 hle1 hal1 HTP HTN HG0 HG1
    show _
    go_wp2
    go_loopw [4, 6, 7] (fun v4 v6 v7 wr => v4 = .slice none 0 0 ∧ v7 = .bool false ∧ Hid (Below w.heap.size w wr)) (fun _ v6 v7 _ => leftM v6 v7)
    case atStart => exact ⟨rfl, rfl, HB1⟩
    case round =>
      obtain ⟨rfl, rfl, hB⟩ := hrel
      go_wp2
      go_ret2
      rw [HF.out]
      exact ⟨_, [], rfl, OwnE.nil _ _, (fun r h => by simp at h), (fun t h => by cases h), hB.out⟩
  | some gp =>
    have := hs1 gp rfl
    subst this
    obtain ⟨g1, g2, g3⟩ := HG1.out _ _ rfl
    subst g2
    have HFT := hide (HTP.out g1)
    rw [← g3] at HFT
    have hll : l.length ≤ b.length := by rw [g3, List.length_drop]; omega
    have hcell : W1.cell? ⟨w.heap.size, 0, none⟩ = some (.int .i64 ((dec62 b).1 : Int)) := by
      rw [hal1.cell]
      exact HSA.out _
    have HCELL := hide hcell
    have hlt0 : w.heap.size < W1.heap.size := World.block_lt_of_cell? W1 ⟨w.heap.size, 0, none⟩ hcell
    generalize (dec62 b).1 = many at *
    clear hn1 hs1 hlt1 hle1 hal1 HTP HTN HG0 HG1 g1 g3 hd HSA hcell
    obtain ⟨RE, hRE⟩ : ∃ RE, RE = readE many l := ⟨_, rfl⟩
    rw [← hRE] at HFT
    have HRE0 : Hid (RE = (readE (many - 0) l).map (fun r => ([] ++ r.1, r.2))) := hide (by
      rw [hRE, Nat.sub_zero]
      cases readE many l <;> rfl)
    clear hRE
    go_wp2
    go_loopw [4, 6, 7] (fun v4 v6 v7 wr => ∃ (t : List Ent) (l2 : List UInt8) (a2 : Option Addr) (c2 : Nat) (th : Bool), v6 = .slice a2 l2.length c2 ∧ v7 = .bool th ∧ t.length ≤ b.length + 1 ∧ Hid (th = true → t.length + l2.length ≤ b.length ∧ t.length ≤ many) ∧ Hid (OwnE wr W1.heap.size v4 t) ∧ Hid (∀ e ∈ t, EntI e) ∧ Hid (∀ W, Rd W (.slice va b.length vc) b → Rd W (.slice a2 l2.length c2) l2) ∧ Hid (th = true → RE = (readE (many - t.length) l2).map (fun r => (t ++ r.1, r.2))) ∧ Hid (th = false → RE = none) ∧ Hid (Below W1.heap.size W1 wr)) (fun _ v6 v7 _ => leftM v6 v7)
    case atStart => exact ⟨[], l, a1, c1, true, rfl, rfl, by simp, hide (fun _ => ⟨by simp; omega, Nat.zero_le _⟩), hide (OwnE.nil _ _), hide (fun e h => by simp at h), HV1, hide (fun _ => HRE0.out), hide (fun h => by cases h), Below.refl _ _⟩
    case round =>
      clear HRE0 HV1
      obtain ⟨t, l2, a2, c2, th, rfl, rfl, hlen, hL, hO, hI, hV, hT, hN, hB⟩ := hrel
      have hR : Hid (Rd wr (.slice a2 l2.length c2) l2) := hide (hV.out wr ((HRW.out.below HB1.out (Nat.le_refl _)).below hB.out (Nat.le_refl _)))
      obtain ⟨oa, oc, hov⟩ := hO.out.shape
      subst hov
      have hcw : wr.cell? ⟨w.heap.size, 0, none⟩ = some (.int .i64 (many : Int)) := (hB.out.cell (p := ⟨w.heap.size, 0, none⟩) hlt0).trans HCELL.out
      cases th with
      | false =>
        have HF : Hid (TL = none) := hide (by rw [HFT.out, hN.out rfl]; rfl)
        go_wp2
        go_ret2
        rw [HF.out]
        exact ⟨_, t, rfl, hO.out.mono HB1.out.size, hI.out, (fun t h => by cases h), HB1.out.trans (hB.out.mono HB1.out.size)⟩
      | true =>
        obtain ⟨hlen2, htm⟩ := hL.out rfl
        by_cases hlt : t.length < many
        case neg =>
          have hni : ¬ (t.length : Int) < (many : Int) := by omega
          have HT2 : Hid (RE = some (t, l2)) := hide (by
            rw [hT.out rfl, show many - t.length = 0 by omega]
            simp [readE])
          have HTL : Hid (TL = if l2 = [] then some t else none) := hide (by rw [HFT.out, HT2.out]; rfl)
          by_cases hl2 : l2.length = 0
          · have HF : Hid (TL = some t) := hide (by rw [HTL.out, if_pos (List.eq_nil_of_length_eq_zero hl2)])
            have hbe : ((l2.length : Int) == 0) = true := by rw [beq_iff_eq]; omega
            clear hl2
            go_wp2
            go_ret2
            rw [HF.out]
            exact ⟨_, t, rfl, hO.out.mono HB1.out.size, hI.out, (fun t' h => by injection h), HB1.out.trans (hB.out.mono HB1.out.size)⟩
          · have HF : Hid (TL = none) := hide (by
              rw [HTL.out, if_neg (fun e => hl2 (by rw [e]; rfl))])
            have hbe : ((l2.length : Int) == 0) = false := beq_eq_false_iff_ne.2 (by omega)
            clear hl2
            go_wp2
            go_ret2
            rw [HF.out]
            exact ⟨_, t, rfl, hO.out.mono HB1.out.size, hI.out, (fun t' h => by cases h), HB1.out.trans (hB.out.mono HB1.out.size)⟩
        have hti : (t.length : Int) < (many : Int) := by omega
        have hsub : many - t.length = (many - (t.length + 1)) + 1 := by omega
        have HT1 : Hid (RE = ((step1 l2).bind (fun y => (readE (many - (t.length + 1)) y.2).map (fun r => (y.1 :: r.1, r.2)))).map (fun r => (t ++ r.1, r.2))) := hide (by
          rw [hT.out rfl, hsub, readE_step1])
        have HLS := hide (fun y h => step1_less (b := l2) (y := y) h)
        have HGQ := hide (HGE.out _ l2 (wr.alloc (.cells #[.int .i64 0, .int .i64 0, .int .i64 0] 48)) (hR.out.below ((Below.refl _ _).alloc (Nat.le_refl _) _) (Nat.le_refl _)))
        have HBA : Hid (Below W1.heap.size W1 (wr.alloc (.cells #[.int .i64 0, .int .i64 0, .int .i64 0] 48))) := hide (hB.out.alloc hB.out.size _)
        have HEA : Hid (Be (wr.alloc (.cells #[.int .i64 0, .int .i64 0, .int .i64 0] 48)) wr.heap.size #[.int .i64 0, .int .i64 0, .int .i64 0]) := hide (heap_alloc_new wr _)
        have HOA : Hid (OwnE (wr.alloc (.cells #[.int .i64 0, .int .i64 0, .int .i64 0] 48)) W1.heap.size (.slice oa t.length oc) t) := hide (hO.out.below ((Below.refl _ _).alloc (Nat.le_refl _) _) (Nat.le_refl _))
        have HOB : Hid (∀ k, (Value.slice oa t.length oc).ownBlock = some k → k < wr.heap.size) := hide (fun k hk => (World.ownsRow.lt hO.out k hk).2)
        obtain ⟨SS, hSS⟩ : ∃ SS, SS = step1 l2 := ⟨_, rfl⟩
        unfold GotE at HGQ
        rw [← hSS] at HT1 HLS HGQ
        have hszr := hB.out.size
        clear hSS hT hN hL hR hO hB hsub
        go_wp2_with fail
        refine HGQ.out.mono ?_
        rintro e W2 ⟨x, v2, l3, rfl, hxi, hr2, hs2, hb2⟩
        have HE2 := hide (HEA.out.below hb2 (Nat.le_refl _))
        have HB2 := hide (HBA.out.trans (hb2.mono HBA.out.size))
        have HO2 := hide (HOA.out.below hb2 (Nat.le_refl _))
        have HXI := hide hxi
        have HV2 := hide (fun W h => hr2 W (hV.out W h))
        obtain ⟨a3, c3, hv2⟩ : ∃ a c, v2 = .slice a l3.length c := by obtain ⟨a, c, h, -⟩ := HV2.out W1 (HRW.out.below HB1.out (Nat.le_refl _)); exact ⟨a, c, h⟩
        subst hv2
        obtain ⟨xp, xq, xr⟩ := x
        obtain ⟨e0, f0⟩ := HE2.out.cell 0
        obtain ⟨e1, f1⟩ := HE2.out.cell 1
        obtain ⟨e2, f2⟩ := HE2.out.cell 2
        obtain ⟨QB, hQB⟩ : ∃ QB, QB = wr.heap.size := ⟨_, rfl⟩
        rw [← hQB] at HE2 HOB e0 e1 e2 f0 f1 f2 hszr ⊢
        clear hQB
        obtain ⟨W3, hW3⟩ : ∃ W3, W3 = ((W2.setCell ⟨QB, 0, none⟩ (.int .i64 xp)).setCell ⟨QB, 1, none⟩ (.int .i64 xq)).setCell ⟨QB, 2, none⟩ (.int .i64 xr) := ⟨_, rfl⟩
        have HE3 : Hid (Be W3 QB #[.int .i64 xp, .int .i64 xq, .int .i64 xr]) := hide (by rw [hW3]; exact ((HE2.out.set 0 _).set 1 _).set 2 _)
        have HBT : Hid (But QB QB W2 W3) := hide (by rw [hW3]; exact (((But.refl _ _ _).set _ _ (.inl rfl) _).set _ _ (.inl rfl) _).set _ _ (.inl rfl) _)
        have HO3 : Hid (OwnE W3 W1.heap.size (.slice oa t.length oc) t) := hide (HO2.out.butD HBT.out (fun k hk => by have := HOB.out k hk; omega))
        have HB3 := hide (below_but HB2.out HBT.out HB2.out.size hszr hszr)
        have hs3 : W1.heap.size ≤ W3.heap.size := HB3.out.size
        unfold entV
        dsimp only
        go_upto_region 7 with fail
        rw [← hW3]
        obtain ⟨x0, -⟩ := HE3.out.cell 0
        obtain ⟨x1, -⟩ := HE3.out.cell 1
        obtain ⟨x2, -⟩ := HE3.out.cell 2
        clear hW3 e0 e1 e2 f0 f1 f2 hxi hr2 hb2 HE2 HB2 HO2 HGQ HBA HEA HOA HOB HBT
        go_wp2_with (at_builtin; refine wpList_append_ent _ rfl _ _ rfl W1.heap.size _ t rfl HO3.out ⟨xp, xq, xr⟩ rfl (by omega) hs3 ?_)
        intro v5 W5 ho5 hb5
        have HO5 := hide ho5
        have HB5 := hide (HB3.out.trans hb5)
        have HI5 : Hid (∀ e ∈ t ++ [(⟨xp, xq, xr⟩ : Ent)], EntI e) := hide (fun e he => by
          rcases List.mem_append.1 he with h | h
          · exact hI.out e h
          · rw [List.mem_singleton.1 h]; exact HXI.out)
        clear ho5 hb5
        cases SS with
        | none =>
          have HF : Hid (RE = none) := hide (by rw [HT1.out]; rfl)
          go_wp2
          go_roundw
          case rel => exact ⟨t ++ [⟨xp, xq, xr⟩], l3, a3, c3, false, rfl, rfl, by simp; omega, hide (fun h => by cases h), HO5, HI5, HV2, hide (fun h => by cases h), hide (fun _ => HF.out), HB5⟩
          case measure => show 0 < l2.length + 1; omega
        | some y =>
          have hy := hs2 y rfl
          subst hy
          have hless := HLS.out _ rfl
          dsimp only at hless
          have HF : Hid (RE = (readE (many - (t ++ [(⟨xp, xq, xr⟩ : Ent)]).length) l3).map (fun r => ((t ++ [⟨xp, xq, xr⟩]) ++ r.1, r.2))) := hide (by
            rw [HT1.out, List.length_append, List.length_singleton, Option.bind_some]
            cases readE (many - (t.length + 1)) l3 with
            | none => rfl
            | some r => simp)
          go_wp2
          go_roundw
          case rel => exact ⟨t ++ [⟨xp, xq, xr⟩], l3, a3, c3, true, rfl, rfl, by simp; omega, hide (fun _ => ⟨by simp; omega, by simp; omega⟩), HO5, HI5, HV2, hide (fun _ => HF.out), hide (fun h => by cases h), HB5⟩
          case measure => show l3.length + 1 < l2.length + 1; omega

end Go.Proofs.Ytanmjihiceibbaa

/- Contract of codec: GetOp. -/
namespace Go.Proofs.Ytanmjihiceibbaa
open Go.RowKit

theorem dec64_nil : dec64 [] = (0, 0) := by
  rcases dec64_cases [] with h | h
  · exact h
  · have h1 := h.2.1
    have h2 := h.2.2.1
    simp at h2
    omega

theorem dec62_nil : dec62 [] = (0, 0) := by
  rcases dec62_cases [] with h | h
  · exact h
  · have h1 := h.2.1
    have h2 := h.2.2.1
    simp at h2
    omega

theorem dec62_zero {l : List UInt8} (h : (dec62 l).2 = 0) : (dec62 l).1 = 0 := by
  rcases dec62_cases l with e | e
  · rw [e]
  · omega

theorem dec64_zero {l : List UInt8} (h : (dec64 l).2 = 0) : zag (dec64 l).1 = 0 := by
  rcases dec64_cases l with e | e
  · rw [e]; rfl
  · omega

theorem behind_zero (l : List UInt8) : behind 0 l = [] := rfl

theorem behind_pos {d : Nat} (h : d ≠ 0) (l : List UInt8) : behind d l = l.drop d := if_neg h

theorem behind_le (d : Nat) (l : List UInt8) : (behind d l).length ≤ l.length := by
  unfold behind
  split
  · simp
  · simp

/-- The operation that bytes begin with, number by number. -/
theorem getOp_behind (l : List UInt8) :
    ((dec64 (behind (dec64 (behind (dec62 l).2 l)).2 (behind (dec62 l).2 l))).2 = 0 → getOpL l = (⟨0, 0, 0⟩, 0)) ∧
    ((dec64 (behind (dec64 (behind (dec62 l).2 l)).2 (behind (dec62 l).2 l))).2 ≠ 0 → getOpL l = if FitsO ⟨((dec62 l).1 : Int), zag (dec64 (behind (dec62 l).2 l)).1, zag (dec64 (behind (dec64 (behind (dec62 l).2 l)).2 (behind (dec62 l).2 l))).1⟩ then (⟨((dec62 l).1 : Int), zag (dec64 (behind (dec62 l).2 l)).1, zag (dec64 (behind (dec64 (behind (dec62 l).2 l)).2 (behind (dec62 l).2 l))).1⟩, l.length - (behind (dec64 (behind (dec64 (behind (dec62 l).2 l)).2 (behind (dec62 l).2 l))).2 (behind (dec64 (behind (dec62 l).2 l)).2 (behind (dec62 l).2 l))).length) else (⟨0, 0, 0⟩, 0)) := by
  by_cases hi : (dec62 l).2 = 0
  · have e : behind (dec62 l).2 l = [] := by rw [hi]; rfl
    rw [e, dec64_nil]
    simp only [behind_zero, dec64_nil, ne_eq, not_true_eq_false, false_imp_iff, and_true, true_imp_iff]
    unfold getOpL
    rw [if_pos (.inl hi)]
  · have e : behind (dec62 l).2 l = l.drop (dec62 l).2 := behind_pos hi l
    rw [e]
    by_cases hj : (dec64 (l.drop (dec62 l).2)).2 = 0
    · have e2 : behind (dec64 (l.drop (dec62 l).2)).2 (l.drop (dec62 l).2) = [] := by rw [hj]; rfl
      rw [e2, dec64_nil]
      simp only [ne_eq, not_true_eq_false, false_imp_iff, and_true, true_imp_iff]
      unfold getOpL
      rw [if_pos (.inr (.inl hj))]
    · have e2 : behind (dec64 (l.drop (dec62 l).2)).2 (l.drop (dec62 l).2) = l.drop ((dec62 l).2 + (dec64 (l.drop (dec62 l).2)).2) := by rw [behind_pos hj, List.drop_drop]
      rw [e2]
      refine ⟨fun hk => ?_, fun hk => ?_⟩
      · unfold getOpL
        rw [if_pos (.inr (.inr (.inl hk)))]
      · have h1 := dec62_le l
        have h2 := dec64_le (l.drop (dec62 l).2)
        have h3 := dec64_le (l.drop ((dec62 l).2 + (dec64 (l.drop (dec62 l).2)).2))
        simp only [List.length_drop] at h2 h3
        rw [behind_pos hk, List.drop_drop, List.length_drop]
        unfold getOpL
        generalize (dec64 (l.drop ((dec62 l).2 + (dec64 (l.drop (dec62 l).2)).2))).2 = k at *
        generalize zag (dec64 (l.drop ((dec62 l).2 + (dec64 (l.drop (dec62 l).2)).2))).1 = y at *
        generalize (dec64 (l.drop (dec62 l).2)).2 = j at *
        generalize zag (dec64 (l.drop (dec62 l).2)).1 = x at *
        generalize (dec62 l).2 = i at *
        generalize (dec62 l).1 = c at *
        by_cases hf : FitsO ⟨(c : Int), x, y⟩
        · rw [if_neg (by rintro (h | h | h | h); exact hi h; exact hj h; exact hk h; exact h hf), if_pos hf]
          congr 1
          omega
        · rw [if_pos (.inr (.inr (.inr hf))), if_neg hf]

/-- Where GetOp stands: the answer's box at N, the operation's behind it, and the reader's behind that. -/
structure GIn (w W : World) (c a b : Int) (vb : Value) (m : List UInt8) : Prop where
  res : Bo W w.heap.size #[.int .i64 0, .int .i64 0, .int .i64 0]
  box : Bo W (w.heap.size + 1) #[.int .i64 c, .int .i64 a, .int .i64 b]
  cap : Bb W (w.heap.size + 1 + 1) vb
  rd : Rd W vb m
  below : Below w.heap.size w W

theorem GIn.next {w W W' : World} {c a b : Int} {vb v' : Value} {m m' : List UInt8} (h : GIn w W c a b vb m) (hb : But (w.heap.size + 1 + 1) (w.heap.size + 1 + 1) W W') (hc : Bb W' (w.heap.size + 1 + 1) v') (hr : Rd W' v' m') : GIn w W' c a b v' m' := by
  have hl := h.cap.lt
  exact ⟨(hb.block _ (by omega) (by omega) (by omega)).trans h.res, (hb.block _ (by omega) (by omega) (by omega)).trans h.box, hc, hr, below_but h.below hb (by omega) (by omega) (by omega)⟩

/-- What is read stays while a number is written elsewhere. -/
theorem Rd.setInt {w : World} {v x : Value} {m : List UInt8} (h : Rd w v m) {b j : Nat} {n : Int} (hb : w.cell? ⟨b, j, none⟩ = some (.int .i64 n)) : Rd (w.setCell ⟨b, j, none⟩ x) v m := by
  obtain ⟨va, vc, h1, h2, h3, hn, h4⟩ := h
  refine ⟨va, vc, h1, h2, h3, hn, ?_⟩
  rcases h4 with h4 | ⟨c, off, h5, h6⟩
  · exact .inl h4
  · refine .inr ⟨c, off, h5, fun k hk => ?_⟩
    have hc := h6 k hk
    rw [World.cell?_setCell_other w ⟨b, j, none⟩ ⟨c, off + k, none⟩ x (fun e => by
      rw [e, hc] at hb
      simp at hb)]
    exact hc

theorem GIn.store {w W : World} {c a b c' a' b' : Int} {vb : Value} {m : List UInt8} (h : GIn w W c a b vb m) (j : Nat) (x : Int) {n : Int} (hn : (#[Value.int .i64 c, .int .i64 a, .int .i64 b] : Array Value)[j]? = some (.int .i64 n)) (he : (#[Value.int .i64 c, .int .i64 a, .int .i64 b] : Array Value).setIfInBounds j (.int .i64 x) = #[.int .i64 c', .int .i64 a', .int .i64 b']) :
    GIn w (W.setCell ⟨w.heap.size + 1, j, none⟩ (.int .i64 x)) c' a' b' vb m := by
  have hl := h.cap.lt
  refine ⟨(Below.heap_setCell _ _ _ _ (by show w.heap.size ≠ w.heap.size + 1; omega)).trans h.res, ?_, (Below.heap_setCell _ _ _ _ (by show w.heap.size + 1 + 1 ≠ w.heap.size + 1; omega)).trans h.cap, h.rd.setInt (((h.box.cell j).1).trans hn), h.below.setCell (by show w.heap.size ≤ w.heap.size + 1; omega) _⟩
  have := heap_setCell_same W (w.heap.size + 1) j _ _ (.int .i64 x) h.box
  unfold Bo
  rw [← he]
  simpa using this

theorem GIn.more {w W W' : World} {c a b : Int} {vb : Value} {m : List UInt8} (h : GIn w W c a b vb m) (hb : Below W.heap.size W W') : GIn w W' c a b vb m := by
  have hl := h.cap.lt
  exact ⟨(hb.block _ (by omega)).trans h.res, (hb.block _ (by omega)).trans h.box, (hb.block _ (by omega)).trans h.cap, h.rd.below hb (Nat.le_refl _), h.below.trans (hb.mono h.below.size)⟩

theorem cell_three (W : World) (b : Nat) (x0 x1 x2 : Value) (c i : Nat) (h : b ≠ c) : (((W.setCell ⟨b, 0, none⟩ x0).setCell ⟨b, 1, none⟩ x1).setCell ⟨b, 2, none⟩ x2).drew.cell? ⟨c, i, none⟩ = W.cell? ⟨c, i, none⟩ := by
  show (((W.setCell ⟨b, 0, none⟩ x0).setCell ⟨b, 1, none⟩ x1).setCell ⟨b, 2, none⟩ x2).cell? ⟨c, i, none⟩ = _
  rw [World.cell?_setCell_far _ _ _ _ h, World.cell?_setCell_far _ _ _ _ h, World.cell?_setCell_far _ _ _ _ h]

end Go.Proofs.Ytanmjihiceibbaa

/- Contract of ferrymanref05: DecodeState. -/
namespace Go.Proofs.Ytanmjihiceibbaa
open Go.RowKit

/-- What is decoded: the state, or the zero one and the error. -/
def DecodedS (w : World) (r : St × Int) (e : Ending) (w' : World) : Prop :=
  ∃ vl, e = .returned (.tuple #[.agg #[.int .i64 r.1.kind, vl, .bool r.1.shut, .int .i64 r.1.eng], .int .i64 r.2]) ∧ RdI w' vl r.1.L ∧ I64 r.1.kind ∧ I64 r.1.eng ∧ (∀ b, vl.ownBlock = some b → w.heap.size ≤ b) ∧ Below w.heap.size w w'

theorem DecodedS.zero {w w' : World} (n : Int) (hb : Below w.heap.size w w') : DecodedS w (zeroS, n) (.returned (.tuple #[.agg #[.int .i64 0, .slice none 0 0, .bool false, .int .i64 0], .int .i64 n])) w' :=
  ⟨_, rfl, RdI.nil _, (i64_small (by decide) (by decide) : I64 0), (i64_small (by decide) (by decide) : I64 0), fun b hb => by simp [Value.ownBlock] at hb, hb⟩

theorem readL_add : ∀ (a b : Nat) (l : List UInt8), readL (a + b) l = (readL a l).bind fun x => (readL b (l.drop x.2)).map fun y => (x.1 ++ y.1, x.2 + y.2)
  | 0, b, l => by
    rw [Nat.zero_add, readL]
    simp
  | a + 1, b, l => by
    rw [Nat.add_right_comm, readL, readL, readL_add a b]
    by_cases h : (dec64 l).2 = 0
    · rw [if_pos h, if_pos h]
      rfl
    · rw [if_neg h, if_neg h]
      cases readL a (l.drop (dec64 l).2) with
      | none => rfl
      | some x =>
        obtain ⟨xs, u⟩ := x
        simp only [Option.bind_some, Option.map_some, List.drop_drop]
        cases readL b (l.drop ((dec64 l).2 + u)) with
        | none => rfl
        | some y => simp [Nat.add_assoc]

theorem readL_one (l : List UInt8) : readL 1 l = if (dec64 l).2 = 0 then none else some ([zag (dec64 l).1], (dec64 l).2) := by
  rw [readL]
  split
  · rfl
  · rfl

theorem readL_next {k : Nat} {l : List UInt8} {xs : List Int} {u : Nat} (h : readL k l = some (xs, u)) (h0 : (dec64 (l.drop u)).2 ≠ 0) : readL (k + 1) l = some (xs ++ [zag (dec64 (l.drop u)).1], u + (dec64 (l.drop u)).2) := by
  rw [readL_add, h]
  simp only [Option.bind_some]
  rw [readL_one, if_neg h0]
  rfl

theorem readL_stop {k m : Nat} {l : List UInt8} {xs : List Int} {u : Nat} (h : readL k l = some (xs, u)) (h0 : (dec64 (l.drop u)).2 = 0) (hm : k < m) : readL m l = none := by
  obtain ⟨d, rfl⟩ : ∃ d, m = k + 1 + d := ⟨m - (k + 1), by omega⟩
  rw [readL_add, readL_add k 1, h]
  simp only [Option.bind_some]
  rw [readL_one, if_pos h0]
  rfl

/-- Where the reading of numbers stands: the answer's box at N, the state's box behind it. -/
structure DecIn (w : World) (kind g : Int) (shut : Bool) (R : List UInt8) (k : Nat) (wr : World) (vk : Value) (xs : List Int) (u : Nat) : Prop where
  read : readL k R = some (xs, u)
  res : Bx wr w.heap.size #[.int .i64 0, .slice none 0 0, .bool false, .int .i64 0]
  box : Bx wr (w.heap.size + 1) #[.int .i64 kind, vk, .bool shut, .int .i64 g]
  own : OwnI wr (w.heap.size + 1 + 1) vk xs
  below : Below w.heap.size w wr

theorem DecIn.next {w wr W1 : World} {kind g : Int} {shut : Bool} {R : List UInt8} {k : Nat} {vk v1 : Value} {xs : List Int} {u : Nat} (h : DecIn w kind g shut R k wr vk xs u) {x : Int} {j : Nat} (hx : x = zag (dec64 (R.drop u)).1) (hj : j = (dec64 (R.drop u)).2) (h0 : j ≠ 0) (ho : OwnI W1 (w.heap.size + 1 + 1) v1 (xs ++ [x])) (hb : Below (w.heap.size + 1 + 1) wr W1) :
    DecIn w kind g shut R (k + 1) (W1.setCell ⟨w.heap.size + 1, 1, none⟩ v1) v1 (xs ++ [x]) (u + j) := by
  have hlt := h.box.lt
  refine ⟨?_, ?_, ?_, ownsRow_setCell_below ho (by show w.heap.size + 1 < w.heap.size + 1 + 1; omega) _, ?_⟩
  · rw [hx, hj]
    exact readL_next h.read (by rw [← hj]; exact h0)
  · refine (Below.heap_setCell _ _ _ _ (by show w.heap.size ≠ w.heap.size + 1; omega)).trans ?_
    exact (hb.block _ (by omega)).trans h.res
  · have hb1 : W1.heap[w.heap.size + 1]? = _ := (hb.block _ (by omega)).trans h.box
    have := heap_setCell_same W1 (w.heap.size + 1) 1 _ _ v1 hb1
    unfold Bx
    simpa using this
  · exact (h.below.trans (hb.mono (by omega))).setCell (by show w.heap.size ≤ w.heap.size + 1; omega) _

end Go.Proofs.Ytanmjihiceibbaa

/- What DecodeState of the landed codec goes through: the plain mathematics, and where it stands. -/
namespace Go.Proofs.Ytanmjihiceibbaa
open Go.RowKit

set_option maxRecDepth 100000 in
/-- The state that bytes are, number by number. -/
theorem decS_behind (l : List UInt8) :
    ((dec62 (behind (dec62 (behind (dec62 l).2 l)).2 (behind (dec62 l).2 l))).2 = 0 ∨ 3 < (dec62 (behind (dec62 l).2 l)).1 ∨ 128 < (dec62 (behind (dec62 (behind (dec62 l).2 l)).2 (behind (dec62 l).2 l))).1 → decS l = (zeroS, 3)) ∧
    (¬ ((dec62 (behind (dec62 (behind (dec62 l).2 l)).2 (behind (dec62 l).2 l))).2 = 0 ∨ 3 < (dec62 (behind (dec62 l).2 l)).1 ∨ 128 < (dec62 (behind (dec62 (behind (dec62 l).2 l)).2 (behind (dec62 l).2 l))).1) →
      decS l = restS (dec62 l).1 (dec62 (behind (dec62 l).2 l)).1 (dec62 (behind (dec62 (behind (dec62 l).2 l)).2 (behind (dec62 l).2 l))).1 (behind (dec62 (behind (dec62 (behind (dec62 l).2 l)).2 (behind (dec62 l).2 l))).2 (behind (dec62 (behind (dec62 l).2 l)).2 (behind (dec62 l).2 l)))) := by
  by_cases hi : (dec62 l).2 = 0
  · have e : behind (dec62 l).2 l = [] := by rw [hi]; rfl
    rw [e, dec62_nil]
    simp only [behind_zero, dec62_nil]
    refine ⟨fun _ => ?_, fun h => absurd (Or.inl trivial) h⟩
    unfold decS
    rw [if_pos (.inl hi)]
  · have e : behind (dec62 l).2 l = l.drop (dec62 l).2 := behind_pos hi l
    rw [e]
    by_cases hj : (dec62 (l.drop (dec62 l).2)).2 = 0
    · have e2 : behind (dec62 (l.drop (dec62 l).2)).2 (l.drop (dec62 l).2) = [] := by rw [hj]; rfl
      rw [e2, dec62_nil]
      refine ⟨fun _ => ?_, fun h => absurd (Or.inl rfl) h⟩
      unfold decS
      rw [if_pos (.inr (.inl hj))]
    · have e2 : behind (dec62 (l.drop (dec62 l).2)).2 (l.drop (dec62 l).2) = l.drop ((dec62 l).2 + (dec62 (l.drop (dec62 l).2)).2) := by rw [behind_pos hj, List.drop_drop]
      rw [e2]
      refine ⟨fun hb => ?_, fun hb => ?_⟩
      · unfold decS
        rw [if_pos (.inr (.inr hb))]
      · have hk : (dec62 (l.drop ((dec62 l).2 + (dec62 (l.drop (dec62 l).2)).2))).2 ≠ 0 := fun h => hb (.inl h)
        unfold decS
        rw [if_neg (by rintro (h | h | h); exact hi h; exact hj h; exact hb h), behind_pos hk, List.drop_drop]

/-- Where DecodeState stands: the answer's box at N, the state's behind it, and the reader's behind that. -/
structure SIn (w W : World) (kd : Int) (vl : Value) (sh : Bool) (g : Int) (vb : Value) (m : List UInt8) : Prop where
  res : Bx W w.heap.size #[.int .i64 0, .slice none 0 0, .bool false, .int .i64 0]
  box : Bx W (w.heap.size + 1) #[.int .i64 kd, vl, .bool sh, .int .i64 g]
  cap : Bb W (w.heap.size + 1 + 1) vb
  rd : Rd W vb m
  below : Below w.heap.size w W

set_option maxRecDepth 100000 in
theorem SIn.next {w W W' : World} {kd g : Int} {sh : Bool} {vl vb v' : Value} {m m' : List UInt8} (h : SIn w W kd vl sh g vb m) (hb : But (w.heap.size + 1 + 1) (w.heap.size + 1 + 1) W W') (hc : Bb W' (w.heap.size + 1 + 1) v') (hr : Rd W' v' m') : SIn w W' kd vl sh g v' m' := by
  have hl := h.cap.lt
  exact ⟨(hb.block _ (by omega) (by omega) (by omega)).trans h.res, (hb.block _ (by omega) (by omega) (by omega)).trans h.box, hc, hr, below_but h.below hb (by omega) (by omega) (by omega)⟩

set_option maxRecDepth 100000 in
theorem SIn.more {w W W' : World} {kd g : Int} {sh : Bool} {vl vb : Value} {m : List UInt8} (h : SIn w W kd vl sh g vb m) (hb : Below W.heap.size W W') : SIn w W' kd vl sh g vb m := by
  have hl := h.cap.lt
  exact ⟨(hb.block _ (by omega)).trans h.res, (hb.block _ (by omega)).trans h.box, (hb.block _ (by omega)).trans h.cap, h.rd.below hb (Nat.le_refl _), h.below.trans (hb.mono h.below.size)⟩

set_option maxRecDepth 100000 in
/-- What is read stays while a cell that is no byte is written. -/
theorem Rd.setElse {w : World} {v x y : Value} {m : List UInt8} (h : Rd w v m) {b j : Nat} (hb : w.cell? ⟨b, j, none⟩ = some y) (hy : ∀ n, y ≠ .int .u8 n) : Rd (w.setCell ⟨b, j, none⟩ x) v m := by
  obtain ⟨va, vc, h1, h2, h3, hn, h4⟩ := h
  refine ⟨va, vc, h1, h2, h3, hn, ?_⟩
  rcases h4 with h4 | ⟨c, off, h5, h6⟩
  · exact .inl h4
  · refine .inr ⟨c, off, h5, fun k hk => ?_⟩
    have hc := h6 k hk
    rw [World.cell?_setCell_other w ⟨b, j, none⟩ ⟨c, off + k, none⟩ x (fun e => by
      rw [e, hc] at hb
      exact hy _ (Option.some.inj hb).symm)]
    exact hc

set_option maxRecDepth 100000 in
theorem SIn.store {w W : World} {kd g kd' g' : Int} {sh sh' : Bool} {vl vl' vb : Value} {m : List UInt8} (h : SIn w W kd vl sh g vb m) (j : Nat) (x y : Value) (hn : (#[Value.int .i64 kd, vl, .bool sh, .int .i64 g] : Array Value)[j]? = some y) (hy : ∀ n, y ≠ .int .u8 n) (he : (#[Value.int .i64 kd, vl, .bool sh, .int .i64 g] : Array Value).setIfInBounds j x = #[.int .i64 kd', vl', .bool sh', .int .i64 g']) :
    SIn w (W.setCell ⟨w.heap.size + 1, j, none⟩ x) kd' vl' sh' g' vb m := by
  have hl := h.cap.lt
  refine ⟨(Below.heap_setCell _ _ _ _ (by show w.heap.size ≠ w.heap.size + 1; omega)).trans h.res, ?_, (Below.heap_setCell _ _ _ _ (by show w.heap.size + 1 + 1 ≠ w.heap.size + 1; omega)).trans h.cap, h.rd.setElse (((h.box.cell j).1).trans hn) hy, h.below.setCell (by show w.heap.size ≤ w.heap.size + 1; omega) _⟩
  have := heap_setCell_same W (w.heap.size + 1) j _ _ x h.box
  unfold Bx
  rw [← he]
  simpa using this

/-- Where the reading of numbers stands. -/
structure DIn (w W : World) (kd g : Int) (sh : Bool) (R : List UInt8) (cnt G k : Nat) (vb : Value) (m : List UInt8) (ys : List Int) (th : Bool) : Prop where
  sin : SIn w W kd (.slice (some ⟨G, 0, none⟩) cnt cnt) sh g vb m
  row : W.heap[G]? = some (.cells (intCells ys).toArray 3 (0, 0))
  len : ys.length = cnt
  far : w.heap.size + 1 + 1 < G
  st : (th = true ∧ ∃ u, readL k R = some (ys.take k, u) ∧ m = R.drop u) ∨ (th = false ∧ readL k R = none ∧ m = [])

set_option maxRecDepth 100000 in
theorem readL_none {k : Nat} {R : List UInt8} (h : readL k R = none) : readL (k + 1) R = none := by
  rw [readL_add, h]
  rfl

set_option maxRecDepth 100000 in
theorem take_set (ys : List Int) (k : Nat) (x : Int) (hk : k < ys.length) : (ys.set k x).take (k + 1) = ys.take k ++ [x] := by
  rw [List.take_add_one, List.take_set_of_le (Nat.le_refl _)]
  simp [hk]

set_option maxRecDepth 100000 in
theorem DIn.step {w W W' : World} {kd g : Int} {sh : Bool} {R : List UInt8} {cnt G k : Nat} {vb v' : Value} {m : List UInt8} {ys : List Int} {th : Bool} (h : DIn w W kd g sh R cnt G k vb m ys th) (hk : k < cnt) (hb : But (w.heap.size + 1 + 1) (w.heap.size + 1 + 1) W W') (hc : Bb W' (w.heap.size + 1 + 1) v') (hr : Rd W' v' (behind (dec64 m).2 m)) :
    DIn w (W'.setCell ⟨G, k, none⟩ (.int .i64 (zag (dec64 m).1))) kd g sh R cnt G (k + 1) v' (behind (dec64 m).2 m) (ys.set k (zag (dec64 m).1)) (decide ((dec64 m).2 ≠ 0)) := by
  have hf := h.far
  have hG : G < W.heap.size := (Array.getElem?_eq_some_iff.1 h.row).1
  have hrow' : W'.heap[G]? = some (.cells (intCells ys).toArray 3 (0, 0)) := (hb.block G hG (by omega) (by omega)).trans h.row
  have hS := h.sin.next hb hc hr
  have hck : W'.cell? ⟨G, k, none⟩ = some (.int .i64 (ys.getD k 0)) := by
    rw [cell_of_row W' G k _ _ _ hrow']
    have := intCells_get ys k (by have := h.len; omega)
    simpa using this
  refine ⟨⟨?_, ?_, ?_, hS.rd.setElse hck (fun n e => by simp at e), hS.below.setCell (by show w.heap.size ≤ G; omega) _⟩, ?_, by rw [List.length_set]; exact h.len, hf, ?_⟩
  · exact (Below.heap_setCell _ _ _ _ (by show w.heap.size ≠ G; omega)).trans hS.res
  · exact (Below.heap_setCell _ _ _ _ (by show w.heap.size + 1 ≠ G; omega)).trans hS.box
  · exact (Below.heap_setCell _ _ _ _ (by show w.heap.size + 1 + 1 ≠ G; omega)).trans hS.cap
  · rw [heap_setCell_same W' G k _ _ _ hrow']
    congr 2
    unfold intCells
    apply Array.ext'
    simp [List.map_set]
  · have hl := h.len
    rcases h.st with ⟨rfl, u, h1, rfl⟩ | ⟨rfl, h1, rfl⟩
    · by_cases hd : (dec64 (R.drop u)).2 = 0
      · right
        refine ⟨decide_eq_false (fun h => h hd), readL_stop h1 hd (by omega), ?_⟩
        rw [hd]
        rfl
      · left
        refine ⟨decide_eq_true hd, u + (dec64 (R.drop u)).2, ?_, ?_⟩
        · rw [readL_next h1 hd, take_set ys k _ (by omega)]
        · rw [behind_pos hd, List.drop_drop]
    · right
      rw [dec64_nil]
      exact ⟨rfl, readL_none h1, rfl⟩

set_option maxRecDepth 100000 in
theorem DIn.own {w W : World} {kd g : Int} {sh : Bool} {R : List UInt8} {cnt G k : Nat} {vb : Value} {m : List UInt8} {ys : List Int} {th : Bool} (h : DIn w W kd g sh R cnt G k vb m ys th) (hc : cnt ≤ maxLen) : OwnI W (w.heap.size + 1 + 1 + 1) (.slice (some ⟨G, 0, none⟩) cnt cnt) ys := by
  have hl := h.len
  have hf := h.far
  refine ⟨by rw [intCells_length, Nat.mul_one], .inr ⟨G, cnt, (intCells ys).toArray, by rw [hl], by omega, h.row, by omega, hc, ?_, ?_⟩⟩
  · simp [intCells_length, hl]
  · rw [List.take_of_length_le]
    simp [intCells_length]

set_option maxRecDepth 100000 in
theorem run_make_ints (w : World) (n : Nat) (hn : n ≤ 1000000) : (Instr.makeSlice 22 (.int .i64 (n : Int)) (.int .i64 (n : Int))).run Try.prog w = .ok (.slice (some ⟨w.heap.size, 0, none⟩) n n) (w.alloc (.cells (intCells (List.replicate n 0)).toArray 3)) := by
  obtain ⟨i0, hi, hz0, hz1, hz2⟩ := info_parts info_i64
  have h := run_make (P := Try.prog) w 22 3 i0 (.int .i64 0) Try.underlying22 hi hz0 .i64 .i64 (n : Int) (n : Int) (by omega) (Int.le_refl _) (by rw [hz2]; omega) (by omega)
  rw [Int.toNat_natCast, hz1, Nat.mul_one] at h
  rw [h]
  congr 3
  apply Array.ext'
  show (madeCells #[Value.int .i64 0] n).toList = _
  rw [toList_madeCells_one]
  simp [intCells]

set_option maxRecDepth 100000 in
theorem But.ofDrew {R T : Nat} {w w' : World} (h : But R T w.drew w') : But R T w w' := ⟨h.os, h.tape, h.output, h.size, h.block⟩

set_option maxRecDepth 100000 in
theorem DIn.start {w W : World} {kd g : Int} {sh : Bool} {vb : Value} {R : List UInt8} (h : SIn w W kd (.slice none 0 0) sh g vb R) (many : Nat) :
    DIn w ((W.alloc (.cells (intCells (List.replicate many 0)).toArray 3)).setCell ⟨w.heap.size + 1, 1, none⟩ (.slice (some ⟨W.heap.size, 0, none⟩) many many)) kd g sh R many W.heap.size 0 vb R (List.replicate many 0) true := by
  have hl := h.cap.lt
  have h1 := h.more ((Below.refl _ _).alloc (Nat.le_refl _) (.cells (intCells (List.replicate many 0)).toArray 3))
  refine ⟨h1.store 1 _ _ rfl (fun n e => by simp at e) rfl, ?_, by simp, hl, .inl ⟨rfl, 0, rfl, by simp⟩⟩
  exact (Below.heap_setCell _ _ _ _ (by show W.heap.size ≠ w.heap.size + 1; omega)).trans (heap_alloc_new W _)

set_option maxRecDepth 100000 in
theorem DIn.spot {w W W' : World} {kd g : Int} {sh : Bool} {R : List UInt8} {cnt G k : Nat} {vb : Value} {m : List UInt8} {ys : List Int} {th : Bool} (h : DIn w W kd g sh R cnt G k vb m ys th) (hk : k < cnt) (hb : But (w.heap.size + 1 + 1) (w.heap.size + 1 + 1) W W') :
    W'.cell? ⟨G, k, none⟩ = some (.int .i64 (ys.getD k 0)) ∧ W'.frozen? ⟨G, k, none⟩ = false := by
  have hf := h.far
  have hG : G < W.heap.size := (Array.getElem?_eq_some_iff.1 h.row).1
  have hrow' : W'.heap[G]? = some (.cells (intCells ys).toArray 3 (0, 0)) := (hb.block G hG (by omega) (by omega)).trans h.row
  refine ⟨?_, frozen_of_row W' G k _ _ hrow'⟩
  rw [cell_of_row W' G k _ _ _ hrow']
  have := intCells_get ys k (by have := h.len; omega)
  simpa using this

end Go.Proofs.Ytanmjihiceibbaa

/- Contract of codec: DecodeState. -/
namespace Go.Proofs.Ytanmjihiceibbaa
open Go.RowKit

set_option maxRecDepth 100000 in
set_option maxHeartbeats 4000000 in
theorem decodeState_any (v : Value) (l : List UInt8) (w : World) (hr : Rd w v l) (_hlim : l.length ≤ 1000000) :
    Calls Try.prog 86 #[v] w fun e w' => DecodedS w (decS l) e w' := by
  obtain ⟨va, vc, rfl⟩ : ∃ va vc, v = .slice va l.length vc := by
    obtain ⟨va, vc, rfl, _⟩ := hr
    exact ⟨va, vc, rfl⟩
  have HR := hide hr
  clear hr
  have HNG : Hid (∀ m W vb, Bb W (w.heap.size + 1 + 1) vb → Rd W vb m → Calls Try.prog 129 #[.func (.func 112) #[] #[], .pointer (some ⟨w.heap.size + 1 + 1, 0, none⟩)] W fun e w' => ∃ v', e = .returned (.tuple #[.int .i64 ((dec62 m).1 : Nat), .bool (decide ((dec62 m).2 ≠ 0))]) ∧ Bb w' (w.heap.size + 1 + 1) v' ∧ Rd w' v' (behind (dec62 m).2 m) ∧ But (w.heap.size + 1 + 1) (w.heap.size + 1 + 1) W w') := fun m W vb h1 h2 => next_get _ _ _ _ _ W h1 h2 (dec62_le m) (fun h => by rw [dec62_zero h]; rfl) (get_any vb m W h2)
  have HNS : Hid (∀ m W vb, Bb W (w.heap.size + 1 + 1) vb → Rd W vb m → Calls Try.prog 129 #[.func (.func 114) #[] #[], .pointer (some ⟨w.heap.size + 1 + 1, 0, none⟩)] W fun e w' => ∃ v', e = .returned (.tuple #[.int .i64 (zag (dec64 m).1), .bool (decide ((dec64 m).2 ≠ 0))]) ∧ Bb w' (w.heap.size + 1 + 1) v' ∧ Rd w' v' (behind (dec64 m).2 m) ∧ But (w.heap.size + 1 + 1) (w.heap.size + 1 + 1) W w') := fun m W vb h1 h2 => next_signed _ _ _ _ _ W h1 h2 (dec64_le m) dec64_zero (getSigned_any vb m W h2)
  have HG := hide (decS_behind l)
  have HN1 := hide (HNG.out l)
  have c1 : (dec62 l).1 < 4611686018427387904 := by
    rcases dec62_cases l with h | h
    · rw [h]; decide
    · exact h.1
  obtain ⟨m1, hm1⟩ : ∃ m1, m1 = behind (dec62 l).2 l := ⟨_, rfl⟩
  rw [← hm1] at HG HN1
  have HN2 := hide (HNG.out m1)
  obtain ⟨m2, hm2⟩ : ∃ m2, m2 = behind (dec62 m1).2 m1 := ⟨_, rfl⟩
  rw [← hm2] at HG HN2
  have HN3 := hide (HNG.out m2)
  obtain ⟨R, hm3⟩ : ∃ m3, m3 = behind (dec62 m2).2 m2 := ⟨_, rfl⟩
  rw [← hm3] at HG HN3
  clear hm1 hm2 hm3 HNG
  generalize decS l = D at *
  generalize (dec62 l).1 = kd at *
  generalize (dec62 l).2 = i at *
  generalize (dec62 m1).1 = sl at *
  generalize (dec62 m1).2 = j at *
  generalize (dec62 m2).1 = many at *
  generalize (dec62 m2).2 = k at *
  have HNU := hide (fun W => numbers_any va l.length vc W)
  have HST : Hid (∀ W X Y, X = .cells #[.int .i64 0, .slice none 0 0, .bool false, .int .i64 0] 24 → Y = .cells #[.int .i64 0, .slice none 0 0, .bool false, .int .i64 0] 24 → W = ((w.alloc X).alloc Y).alloc (.cells #[.slice va l.length vc] 30) → SIn w W 0 (.slice none 0 0) false 0 (.slice va l.length vc) l) := fun W X Y hX hY hW => by
    subst hX hY hW
    have b1 : Below w.heap.size w (((w.alloc (.cells #[.int .i64 0, .slice none 0 0, .bool false, .int .i64 0] 24)).alloc (.cells #[.int .i64 0, .slice none 0 0, .bool false, .int .i64 0] 24)).alloc (.cells #[.slice va l.length vc] 30)) := (((Below.refl _ _).alloc (Nat.le_refl _) _).alloc (by simp) _).alloc (by simp; omega) _
    refine ⟨?_, ?_, ?_, HR.out.below b1 (Nat.le_refl _), b1⟩
    · exact (Below.heap_alloc _ _ _ (by simp; omega)).trans ((Below.heap_alloc _ _ _ (by simp)).trans (heap_alloc_new w _))
    · exact (Below.heap_alloc _ _ _ (by simp)).trans (two_new w _ _)
    · have h := heap_alloc_new ((w.alloc (.cells #[.int .i64 0, .slice none 0 0, .bool false, .int .i64 0] 24)).alloc (.cells #[.int .i64 0, .slice none 0 0, .bool false, .int .i64 0] 24)) (.cells #[.slice va l.length vc] 30)
      have e : ((w.alloc (.cells #[.int .i64 0, .slice none 0 0, .bool false, .int .i64 0] 24)).alloc (.cells #[.int .i64 0, .slice none 0 0, .bool false, .int .i64 0] 24)).heap.size = w.heap.size + 1 + 1 := by simp
      rw [e] at h
      exact h
  go_enter Try.func86, Try.ntmps86
  go_wp2_with fail
  refine (HNU.out _).mono ?_
  rintro e W1 ⟨rfl, hw1⟩
  have G1 := hide (HST.out W1 _ _ rfl rfl hw1)
  clear hw1 HST HNU
  go_wp2_with fail
  refine (HN1.out _ _ G1.out.cap G1.out.rd).mono ?_
  rintro e W2 ⟨v2, rfl, hb2, hr2, hk2⟩
  have G2 := hide (G1.out.next hk2 hb2 hr2)
  obtain ⟨p0, f0⟩ := G2.out.box.cell 0
  clear hb2 hr2 hk2 G1 HN1
  have HT2 := hide (G2.out.store (kd' := (kd : Int)) (vl' := .slice none 0 0) (sh' := false) (g' := 0) 0 (.int .i64 (kd : Int)) _ rfl (fun n e => by simp at e) rfl)
  go_wp2_with fail
  refine (HN2.out _ _ HT2.out.cap HT2.out.rd).mono ?_
  rintro e W3 ⟨v3, rfl, hb3, hr3, hk3⟩
  have G3 := hide (HT2.out.next hk3 hb3 hr3)
  clear hb3 hr3 hk3 G2 HT2 HN2 p0 f0
  go_wp2_with fail
  refine (HN3.out _ _ G3.out.cap G3.out.rd).mono ?_
  rintro e W4 ⟨v4, rfl, hb4, hr4, hk4⟩
  have G4 := hide (G3.out.next hk4 hb4 hr4)
  clear hb4 hr4 hk4 G3 HN3
  by_cases hbad : k = 0 ∨ 3 < sl ∨ 128 < many
  · have HN : Hid (D = (zeroS, 3)) := HG.out.1 hbad
    obtain ⟨r0, g0⟩ := G4.out.res.cell 0
    obtain ⟨r1, g1⟩ := G4.out.res.cell 1
    obtain ⟨r2, g2⟩ := G4.out.res.cell 2
    obtain ⟨r3, g3⟩ := G4.out.res.cell 3
    have HBL := hide G4.out.below
    by_cases hk : k = 0
    · rw [decide_eq_false (fun h => h hk)]
      clear hk hbad G4
      go_wp2
      refine bodyPost_ret (v := .tuple #[.agg #[.int .i64 0, .slice none 0 0, .bool false, .int .i64 0], .int .i64 3]) (by simp [results, Try.results86, go_sem, r0, r1, r2, r3]) rfl ?_
      rw [HN.out]
      exact DecodedS.zero 3 (belowFour HBL.out w.heap.size (Nat.le_refl _) _ _ _ _)
    · rw [decide_eq_true hk]
      by_cases h3 : 3 < sl
      · have h3' : (3 : Int) < (sl : Int) := by omega
        clear hk hbad G4 h3
        go_wp2
        refine bodyPost_ret (v := .tuple #[.agg #[.int .i64 0, .slice none 0 0, .bool false, .int .i64 0], .int .i64 3]) (by simp [results, Try.results86, go_sem, r0, r1, r2, r3]) rfl ?_
        rw [HN.out]
        exact DecodedS.zero 3 (belowFour HBL.out w.heap.size (Nat.le_refl _) _ _ _ _)
      · have h3' : ¬ (3 : Int) < (sl : Int) := by omega
        have h4 : (128 : Int) < (many : Int) := by
          rcases hbad with h | h | h
          · exact absurd h hk
          · exact absurd h h3
          · omega
        clear hk hbad G4 h3
        go_wp2
        refine bodyPost_ret (v := .tuple #[.agg #[.int .i64 0, .slice none 0 0, .bool false, .int .i64 0], .int .i64 3]) (by simp [results, Try.results86, go_sem, r0, r1, r2, r3]) rfl ?_
        rw [HN.out]
        exact DecodedS.zero 3 (belowFour HBL.out w.heap.size (Nat.le_refl _) _ _ _ _)
  · have HN : Hid (D = restS kd sl many R) := HG.out.2 hbad
    have hk : k ≠ 0 := fun h => hbad (.inl h)
    have h3 : ¬ (3 : Int) < (sl : Int) := fun h => hbad (.inr (.inl (by omega)))
    have h4 : ¬ (128 : Int) < (many : Int) := fun h => hbad (.inr (.inr (by omega)))
    rw [decide_eq_true hk]
    obtain ⟨p1, f1⟩ := G4.out.box.cell 1
    obtain ⟨p2, f2⟩ := G4.out.box.cell 2
    obtain ⟨p3, f3⟩ := G4.out.box.cell 3
    clear hbad hk HG
    have hsl : sl = 0 ∨ sl = 1 ∨ sl = 2 ∨ sl = 3 := by omega
    go_upto_region 8 with fail
    go_cut [] (fun wc => ∃ (sh : Bool) (g : Int), Hid (∀ xs, mkS kd sl xs = ⟨kd, xs, sh, g⟩) ∧ Hid (I64 g) ∧ Hid (SIn w wc kd (.slice none 0 0) sh g v4 R))
    case first =>
      rcases hsl with rfl | rfl | rfl | rfl
      · go_wp2
        go_meet
        exact ⟨false, 0, hide (fun xs => by simp [mkS]), hide (i64_small (by omega) (by omega)), hide ((G4.out.store 2 (.bool false) _ rfl (fun n e => by simp at e) rfl).store 3 (.int .i64 0) _ rfl (fun n e => by simp at e) rfl)⟩
      · go_wp2
        go_meet
        exact ⟨true, 0, hide (fun xs => by simp [mkS]), hide (i64_small (by omega) (by omega)), hide ((G4.out.store 2 (.bool true) _ rfl (fun n e => by simp at e) rfl).store 3 (.int .i64 0) _ rfl (fun n e => by simp at e) rfl)⟩
      · go_wp2
        go_meet
        exact ⟨true, 1, hide (fun xs => by simp [mkS]), hide (i64_small (by omega) (by omega)), hide ((G4.out.store 2 (.bool true) _ rfl (fun n e => by simp at e) rfl).store 3 (.int .i64 1) _ rfl (fun n e => by simp at e) rfl)⟩
      · go_wp2
        go_meet
        exact ⟨true, 2, hide (fun xs => by simp [mkS]), hide (i64_small (by omega) (by omega)), hide ((G4.out.store 2 (.bool true) _ rfl (fun n e => by simp at e) rfl).store 3 (.int .i64 2) _ rfl (fun n e => by simp at e) rfl)⟩
    case rest =>
      obtain ⟨sh, g, HMK, HGI, GS⟩ := hcut
      clear hsl p1 f1 p2 f2 p3 f3 G4
      have HDS := hide (DIn.start GS.out many)
      obtain ⟨a1, e1⟩ := (GS.out.more ((Below.refl _ _).alloc (Nat.le_refl _) (.cells (intCells (List.replicate many 0)).toArray 3))).box.cell 1
      have hmk := fun W => run_make_ints W many (by omega)
      have HKI : Hid (I64 (kd : Int)) := ⟨by omega, by omega⟩
      have hmm : many ≤ 128 := by omega
      have HML : Hid (many ≤ maxLen) := hide (by unfold maxLen; omega)
      generalize (intCells (List.replicate many 0)).toArray = Z at *
      go_upto_region 10 with fail
      generalize ((wc.alloc (.cells Z 3)).setCell ⟨w.heap.size + 1, 1, none⟩ (.slice (some ⟨wc.heap.size, 0, none⟩) many many)) = W6 at *
      clear hmk a1 e1 GS
      generalize wc.heap.size = G at *
      obtain ⟨b1, -⟩ := HDS.out.sin.box.cell 1
      go_wp2
      go_loopw [10, 57] (fun th ix wr => ∃ (q : Nat) (vb : Value) (m : List UInt8) (ys : List Int) (t : Bool), th = .bool t ∧ ix = .int .i64 (q : Int) ∧ q ≤ many ∧ Hid (DIn w wr kd g sh R many G q vb m ys t)) (fun _ ix _ => many - (intOf ix).toNat)
      case atStart => exact ⟨0, _, _, _, true, rfl, rfl, Nat.zero_le _, HDS⟩
      case round =>
        clear HDS b1
        obtain ⟨q, vb, m, ys, t, rfl, rfl, hq, hd⟩ := hrel
        by_cases hlt : q < many
        · have hqi : (q : Int) < (many : Int) := by omega
          obtain ⟨b1, -⟩ := hd.out.sin.box.cell 1
          have hfar := hd.out.far
          have HK0 : Hid (wr.drew.cell? ⟨w.heap.size + 1, 1, none⟩ = some (.slice (some ⟨G, 0, none⟩) many many)) := b1
          have HNX := hide (HNS.out m wr.drew vb hd.out.sin.cap hd.out.sin.rd)
          have HSTEP := hide (fun W' v' hb hc hr => hd.out.step (W' := W') (v' := v') hlt hb hc hr)
          have HSPOT := hide (fun W' hb => hd.out.spot (W' := W') hlt hb)
          have HBOX := hide (fun W' v' hb hc hr => (((hd.out.sin.next (W' := W') (v' := v') (m' := behind (dec64 m).2 m) hb hc hr).box).cell 1).1)
          generalize zag (dec64 m).1 = x at *
          generalize behind (dec64 m).2 m = m' at *
          generalize decide ((dec64 m).2 ≠ 0) = t' at *
          go_wp2
          go_region_held (fun w' => w'.cell? ⟨w.heap.size + 1, 1, none⟩ = some (.slice (some ⟨G, 0, none⟩) many many)) (first | exact HK0.out | exact HK1.out | exact HK2.out)
            (first
              | (go_at_call 129; refine HNX.out.mono ?_; rintro e W7 ⟨v7, rfl, hb7, hr7, hk7⟩; have hk7' := hk7.ofDrew; have HK1 : Hid (W7.cell? ⟨w.heap.size + 1, 1, none⟩ = some (.slice (some ⟨G, 0, none⟩) many many)) := HBOX.out W7 v7 hk7' hb7 hr7; obtain ⟨k0, k1⟩ := HSPOT.out W7 hk7'; have HK2 : Hid ((W7.setCell ⟨G, q, none⟩ (.int .i64 x)).cell? ⟨w.heap.size + 1, 1, none⟩ = some (.slice (some ⟨G, 0, none⟩) many many)) := hide ((World.cell?_setCell_far W7 _ _ _ (by show G ≠ w.heap.size + 1; omega)).trans HK1.out); have HD7 := hide (HSTEP.out W7 v7 hk7' hb7 hr7); clear hb7 hr7 hk7 hk7'))
          clear HK0 HK1 HK2 HNX HSTEP HSPOT HBOX k0 k1 b1 hfar hd
          go_wp2
          go_roundw
          case rel => exact ⟨q + 1, _, _, _, _, rfl, by go_num, by omega, HD7⟩
          case measure => simp [intOf]; omega
        · have hqe : q = many := by omega
          have hqi : ¬ (q : Int) < (many : Int) := by omega
          have hlen := hd.out.len
          have HOW := hide (hd.out.own HML.out)
          obtain ⟨r0, f0⟩ := hd.out.sin.res.cell 0
          obtain ⟨r1, f1⟩ := hd.out.sin.res.cell 1
          obtain ⟨r2, f2⟩ := hd.out.sin.res.cell 2
          obtain ⟨r3, f3⟩ := hd.out.sin.res.cell 3
          have HBL := hide hd.out.sin.below
          rcases hd.out.st with ⟨rfl, u, hrd, hmu⟩ | ⟨rfl, hrd, hmu⟩
          · have hu := (readL_sound _ _ _ _ hrd).2.1
            have hml : m.length = R.length - u := by rw [hmu, List.length_drop]
            have hye : ys.take q = ys := List.take_of_length_le (by omega)
            rw [hye, hqe] at hrd
            have HRL := hide hrd
            have hc := hd.out.sin.cap.cell.1
            obtain ⟨a4, c4, rfl, -⟩ := hd.out.sin.rd
            have HL := hide (fun W h => left_any (w.heap.size + 1 + 1) a4 m.length c4 W h)
            clear hrd hye hmu
            by_cases hend : u = R.length
            · have hm0 : m.length = 0 := by omega
              rw [hm0] at hc HL
              have HDE : Hid (D = if MayS ⟨kd, ys, sh, g⟩ then ((⟨kd, ys, sh, g⟩ : St), 0) else (zeroS, 1)) := by
                refine hide ?_
                rw [HN.out]
                unfold restS
                rw [HRL.out]
                simp only
                rw [if_neg (by omega), HMK.out]
              have HIX := hide (readL_sound _ _ _ _ HRL.out).2.2.2
              have HRX := hide (HOW.out.rd HIX.out)
              have q0 := (hd.out.sin.box.cell 0).1
              have q1 := (hd.out.sin.box.cell 1).1
              have q2 := (hd.out.sin.box.cell 2).1
              have q3 := (hd.out.sin.box.cell 3).1
              have HM2 : Hid (Calls Try.prog 31 #[.agg #[.int .i64 kd, .slice (some ⟨G, 0, none⟩) many many, .bool sh, .int .i64 g]] wr fun e w' => e = .returned (.bool (decide (MayS ⟨kd, ys, sh, g⟩))) ∧ Below wr.heap.size wr w') := may_any _ ⟨kd, ys, sh, g⟩ _ ⟨_, rfl, HRX.out, HKI.out, HGI.out⟩
              clear hend hml hm0 hlen HN HMK
              go_wp2_with fail
              refine (HL.out _ hc).mono ?_
              rintro e W8 ⟨rfl, rfl⟩
              go_wp2_with fail
              refine HM2.out.mono ?_
              rintro e W7 ⟨rfl, hb7⟩
              have HS7 := hide (hd.out.sin.more hb7)
              have HOW7 := hide (HOW.out.below hb7 (Nat.le_refl _))
              clear hb7 r0 r1 r2 r3 f0 f1 f2 f3 q0 q1 q2 q3 hc HM2 HL
              obtain ⟨r0, f0⟩ := HS7.out.res.cell 0
              obtain ⟨r1, f1⟩ := HS7.out.res.cell 1
              obtain ⟨r2, f2⟩ := HS7.out.res.cell 2
              obtain ⟨r3, f3⟩ := HS7.out.res.cell 3
              have q0 := (HS7.out.box.cell 0).1
              have q1 := (HS7.out.box.cell 1).1
              have q2 := (HS7.out.box.cell 2).1
              have q3 := (HS7.out.box.cell 3).1
              by_cases hm : MayS ⟨kd, ys, sh, g⟩
              · rw [decide_eq_true hm]
                have HF : Hid (D = ((⟨kd, ys, sh, g⟩ : St), 0)) := HDE.out.trans (if_pos hm)
                clear hm HDE
                go_wp2
                refine bodyPost_ret (v := .tuple #[.agg #[.int .i64 kd, .slice (some ⟨G, 0, none⟩) many many, .bool sh, .int .i64 g], .int .i64 0]) (by simp [results, Try.results86, go_sem, r0, r1, r2, r3]) rfl ?_
                rw [HF.out]
                refine ⟨_, rfl, (HOW7.out.four w.heap.size (by omega) _ _ _ _).rd HIX.out, HKI.out, HGI.out, fun b hb => ?_, belowFour HS7.out.below w.heap.size (Nat.le_refl _) _ _ _ _⟩
                have := HOW7.out.fresh b hb
                omega
              · rw [decide_eq_false hm]
                have HF : Hid (D = (zeroS, 1)) := HDE.out.trans (if_neg hm)
                clear hm HDE
                go_wp2
                refine bodyPost_ret (v := .tuple #[.agg #[.int .i64 0, .slice none 0 0, .bool false, .int .i64 0], .int .i64 1]) (by simp [results, Try.results86, go_sem, r0, r1, r2, r3]) rfl ?_
                rw [HF.out]
                exact DecodedS.zero 1 (belowFour HS7.out.below w.heap.size (Nat.le_refl _) _ _ _ _)
            · have hm0 : (0 : Int) < (m.length : Int) := by omega
              have HF : Hid (D = (zeroS, 3)) := by
                refine hide ?_
                rw [HN.out]
                unfold restS
                rw [HRL.out]
                simp only
                rw [if_pos hend]
              clear hend hml hlen HN
              go_wp2_with fail
              refine (HL.out _ hc).mono ?_
              rintro e W8 ⟨rfl, rfl⟩
              go_wp2
              refine bodyPost_ret (v := .tuple #[.agg #[.int .i64 0, .slice none 0 0, .bool false, .int .i64 0], .int .i64 3]) (by simp [results, Try.results86, go_sem, r0, r1, r2, r3]) rfl ?_
              rw [HF.out]
              exact DecodedS.zero 3 (belowFour HBL.out w.heap.size (Nat.le_refl _) _ _ _ _)
          · rw [hqe] at hrd
            have HF : Hid (D = (zeroS, 3)) := by
              refine hide ?_
              rw [HN.out]
              unfold restS
              rw [hrd]
            clear hrd hmu hd
            go_wp2
            refine bodyPost_ret (v := .tuple #[.agg #[.int .i64 0, .slice none 0 0, .bool false, .int .i64 0], .int .i64 3]) (by simp [results, Try.results86, go_sem, r0, r1, r2, r3]) rfl ?_
            rw [HF.out]
            exact DecodedS.zero 3 (belowFour HBL.out w.heap.size (Nat.le_refl _) _ _ _ _)

end Go.Proofs.Ytanmjihiceibbaa

/- Contract of snapshot: readWhole. -/
namespace Go.Proofs.Ytanmjihiceibbaa
open Go.RowKit

/-- What readWhole answers. -/
def ReadW (w : World) (b : List UInt8) (e : Ending) (w' : World) : Prop :=
  ∃ (vl vt : Value) (S : St) (t : List Ent) (ok : Bool), e = .returned (.tuple #[.agg #[.int .i64 S.kind, vl, .bool S.shut, .int .i64 S.eng], vt, .bool ok]) ∧ RdI w' vl S.L ∧ I64 S.kind ∧ I64 S.eng ∧ RdE w' vt t ∧ (∀ k, vl.ownBlock = some k → w.heap.size ≤ k) ∧ (∀ k, vt.ownBlock = some k → w.heap.size ≤ k) ∧
    (ok = false → (readN b).2 = 3) ∧ (ok = true → ∃ er, readN b = (⟨0, S, t⟩, er) ∧ (er = 0 ∨ (er = 1 ∧ S = zeroS))) ∧ Below w.heap.size w w'

theorem ReadW.none {w w' : World} {b : List UInt8} (h : (readN b).2 = 3) (hb : Below w.heap.size w w') : ReadW w b (.returned (.tuple #[.agg #[.int .i64 0, .slice none 0 0, .bool false, .int .i64 0], .slice none 0 0, .bool false])) w' :=
  ⟨_, _, zeroS, [], false, rfl, RdI.nil _, (i64_small (by decide) (by decide) : I64 0), (i64_small (by decide) (by decide) : I64 0), RdE.nil _, (fun k hk => by simp [Value.ownBlock] at hk), (fun k hk => by simp [Value.ownBlock] at hk), (fun _ => h), (fun h => by cases h), hb⟩

theorem cut_head (ao : Option Addr) (l : List UInt8) (cap : Nat) (hlc : l.length ≤ cap) (j : Nat) (hj : j ≤ l.length) :
    ∃ xa xn xc, (∀ W, (Instr.sliceAt 30 (.slice ao l.length cap) none (some (.int .i64 (j : Int))) (some (.int .i64 (j : Int)))).run Try.prog W = .ok (.slice xa xn xc) W) ∧ ∀ W, Rd W (.slice ao l.length cap) l → Rd W (.slice xa xn xc) (l.take j) := by
  have hsl : ∃ xa xn xc, sliced ao 0 j j 1 = .slice xa xn xc := by
    unfold sliced
    exact ⟨_, _, _, rfl⟩
  obtain ⟨xa, xn, xc, hsl⟩ := hsl
  refine ⟨xa, xn, xc, fun W => ?_, fun W h => ?_⟩
  · rw [run_sliceAt_slice W 30 _ _ _ _ under_bytes, run_slice_hm W 30 ao l.length cap under_bytes .i64 .i64 (j : Int) (j : Int) (by omega) (by omega) (by omega), elem_bytes, size_u8]
    simp only [Int.toNat_natCast]
    rw [← hsl]
    rfl
  · rw [← hsl]
    have h2 := h.mid 0 j j (Nat.zero_le _) hj (Nat.le_refl _) (by omega)
    rw [List.drop_zero, Nat.sub_zero] at h2
    exact h2

theorem Bx.setX {w : World} {b : Nat} {cs : Array Value} (h : Bx w b cs) (j : Nat) (x : Value) : Bx (w.setCell ⟨b, j, none⟩ x) b (cs.setIfInBounds j x) := by
  have := heap_setCell_same w b j _ _ x h
  unfold Bx
  simpa using this

/-- Four cells of a block, written. -/
def four (w : World) (R : Nat) (x0 x1 x2 x3 : Value) : World := (((w.setCell ⟨R, 0, none⟩ x0).setCell ⟨R, 1, none⟩ x1).setCell ⟨R, 2, none⟩ x2).setCell ⟨R, 3, none⟩ x3

theorem belowFourE {C : Nat} {w0 w : World} (h : Below C w0 w) (R : Nat) (hR : C ≤ R) (x0 x1 x2 x3 : Value) : Below C w0 ((((w.setCell ⟨R, 0, none⟩ x0).setCell ⟨R, 1, none⟩ x1).setCell ⟨R, 2, none⟩ x2).setCell ⟨R, 3, none⟩ x3) :=
  (((h.setCell hR _).setCell hR _).setCell hR _).setCell hR _

theorem butFourE (w : World) (R : Nat) (x0 x1 x2 x3 : Value) : But R R w ((((w.setCell ⟨R, 0, none⟩ x0).setCell ⟨R, 1, none⟩ x1).setCell ⟨R, 2, none⟩ x2).setCell ⟨R, 3, none⟩ x3) :=
  ((((But.refl R R w).set _ _ (.inl rfl) _).set _ _ (.inl rfl) _).set _ _ (.inl rfl) _).set _ _ (.inl rfl) _

set_option maxRecDepth 100000 in
set_option maxHeartbeats 4000000 in
theorem readWhole_any (v : Value) (b : List UInt8) (w : World) (hr : Rd w v b) (hlim : b.length ≤ 100000) :
    Calls Try.prog 52 #[v] w fun e w' => ReadW w b e w' := by
  obtain ⟨W0, hW0⟩ : ∃ W0, W0 = ((w.alloc (.cells #[.int .i64 0, .slice none 0 0, .bool false, .int .i64 0] 24)).alloc (.cells #[.int .i64 0] 3)).alloc (.cells #[.pointer (some ⟨w.heap.size + 1, 0, none⟩)] 101) := ⟨_, rfl⟩
  have h3 := three_new w (.cells #[.int .i64 0, .slice none 0 0, .bool false, .int .i64 0] 24) (.cells #[.int .i64 0] 3) (.cells #[.pointer (some ⟨w.heap.size + 1, 0, none⟩)] 101)
  rw [← hW0] at h3
  obtain ⟨hA, hB, hC⟩ := h3
  have HB0 : Hid (Below w.heap.size w W0) := hide (by rw [hW0]; exact (((Below.refl _ _).alloc (Nat.le_refl _) _).alloc (by simp) _).alloc (by simp; omega) _)
  have hEA : Bx W0 w.heap.size #[.int .i64 0, .slice none 0 0, .bool false, .int .i64 0] := hA
  have HGN := hide (getNumbers_any (w.heap.size + 1 + 1) [(w.heap.size + 1, 0)] v b W0 (hr.below HB0.out (Nat.le_refl _)) (fun p hp => by
    rw [List.mem_singleton.1 hp]
    exact ⟨⟨⟨0, cell_of_row W0 (w.heap.size + 1) 0 _ _ _ hB⟩, frozen_of_row W0 (w.heap.size + 1) 0 _ _ hB⟩, by simp⟩) (by simp) hC 1 rfl)
  have HSC : Hid (∀ n : Nat, (W0.setCell ⟨w.heap.size + 1, 0, none⟩ (.int .i64 (n : Int))).cell? ⟨w.heap.size + 1, 0, none⟩ = some (.int .i64 (n : Int))) := hide (fun n => World.cell?_setCell_same _ _ _ (cell_of_row W0 (w.heap.size + 1) 0 _ _ _ hB))
  have HSB : Hid (∀ ns, Below w.heap.size w (setAt W0 ([(w.heap.size + 1, 0)].take (List.length ns)) ns)) := hide (fun ns => setAt_below W0 _ ns _ w (fun p hp => by
    have := List.mem_of_mem_take hp
    rw [List.mem_singleton.1 this]
    simp) HB0.out)
  have HSA : Hid (∀ ns, Bx (setAt W0 ([(w.heap.size + 1, 0)].take (List.length ns)) ns) w.heap.size #[.int .i64 0, .slice none 0 0, .bool false, .int .i64 0]) := hide (fun ns => (setAt_block W0 _ ns _ (fun p hp => by
    have := List.mem_of_mem_take hp
    rw [List.mem_singleton.1 this]
    simp)).trans hEA)
  have HG1 := hide (fun ns l h => getsL_some1 (b := b) (ns := ns) (l := l) h)
  have HG0 := hide (fun h => getsL_none1 (b := b) h)
  have HRN : Hid (readN b = if (dec62 b).2 = 0 ∨ b.length < (dec62 b).2 + (dec62 b).1 then (zeroN, 3) else if (decS ((b.drop (dec62 b).2).take (dec62 b).1)).2 = 3 then (zeroN, 3) else match tableL (b.drop ((dec62 b).2 + (dec62 b).1)) with
    | none => (zeroN, 3)
    | some t => (⟨0, (decS ((b.drop (dec62 b).2).take (dec62 b).1)).1, t⟩, (decS ((b.drop (dec62 b).2).take (dec62 b).1)).2)) := hide rfl
  have hd := dec62_le b
  have hdn : (dec62 b).1 < 4611686018427387904 := by
    rcases dec62_cases b with h | h
    · rw [h]; decide
    · exact h.1
  have HDS := hide (fun v1 l W h h2 => decodeState_any v1 l W h h2)
  have HRT := hide (fun v1 l W h h2 => readTable_any v1 l W h h2)
  have HLEN : Hid ([(w.heap.size + 1, 0)].length = 1) := hide rfl
  rw [HLEN.out] at HGN
  generalize getsL 1 b = GL at *
  have HRW := hide hr
  obtain ⟨va, vc, hv⟩ : ∃ a c, v = .slice a b.length c := by obtain ⟨a, c, h, -⟩ := hr; exact ⟨a, c, h⟩
  subst hv
  clear hr hA hB hC hEA HLEN
  go_enter Try.func52, Try.ntmps52
  go_wp2_with fail
  rw [← hW0]
  refine HGN.out.mono ?_
  rintro e W1 ⟨v1, l, ns, rfl, hr1, hn1, hs1, hlt1, hle1, hal1⟩
  have HB1 : Hid (Below w.heap.size w W1) := hide ((HSB.out ns).trans (hal1.below _))
  have HA1 : Hid (Bx W1 w.heap.size #[.int .i64 0, .slice none 0 0, .bool false, .int .i64 0]) := hide ((HSA.out ns).below (hal1.below (setAt W0 ([(w.heap.size + 1, 0)].take ns.length) ns).heap.size) (Nat.le_refl _))
  have HV1 := hide hr1
  have HR1 := hide (hr1 W1 (HRW.out.below HB1.out (Nat.le_refl _)))
  obtain ⟨a1, c1, hv1⟩ : ∃ a c, v1 = .slice a l.length c := by obtain ⟨a, c, h, -⟩ := HR1.out; exact ⟨a, c, h⟩
  subst hv1
  obtain ⟨z0, y0⟩ := HA1.out.cell 0
  obtain ⟨z1, y1⟩ := HA1.out.cell 1
  obtain ⟨z2, y2⟩ := HA1.out.cell 2
  obtain ⟨z3, y3⟩ := HA1.out.cell 3
  clear HGN HSB HB0 hW0 HSA
  cases GL with
  | none =>
    have HF : Hid ((readN b).2 = 3) := hide (by rw [HRN.out, if_pos (.inl (HG0.out rfl))])
    clear hn1 hs1 hlt1 hle1 hal1 HRN HG0 HG1
    go_wp2
    refine bodyPost_ret (v := .tuple #[.agg #[.int .i64 0, .slice none 0 0, .bool false, .int .i64 0], .slice none 0 0, .bool false]) (by simp [results, Try.results52, go_sem, z0, z1, z2, z3]) rfl ?_
    exact ReadW.none HF.out (belowFourE HB1.out _ (Nat.le_refl _) _ _ _ _)
  | some gp =>
    have := hs1 gp rfl
    subst this
    obtain ⟨g1, g2, g3⟩ := HG1.out _ _ rfl
    subst g2
    have hll : l.length = b.length - (dec62 b).2 := by rw [g3, List.length_drop]
    have hcell : W1.cell? ⟨w.heap.size + 1, 0, none⟩ = some (.int .i64 ((dec62 b).1 : Int)) := by
      rw [hal1.cell]
      exact HSC.out _
    rw [← List.drop_drop, ← g3] at HRN
    generalize (dec62 b).1 = n at *
    generalize (dec62 b).2 = k at *
    clear hn1 hs1 hlt1 hle1 hal1 HG0 HG1 g3 HSC
    by_cases hbig : l.length < n
    · have HF : Hid ((readN b).2 = 3) := hide (by rw [HRN.out, if_pos (.inr (by omega))])
      have hbi : (l.length : Int) < (n : Int) := by omega
      clear hll HRN
      go_wp2
      refine bodyPost_ret (v := .tuple #[.agg #[.int .i64 0, .slice none 0 0, .bool false, .int .i64 0], .slice none 0 0, .bool false]) (by simp [results, Try.results52, go_sem, z0, z1, z2, z3]) rfl ?_
      exact ReadW.none HF.out (belowFourE HB1.out _ (Nat.le_refl _) _ _ _ _)
    have hbi : ¬ (l.length : Int) < (n : Int) := by omega
    have hcap : l.length ≤ c1 := by
      obtain ⟨a', c', h, h2, -⟩ := HR1.out
      simp only [Value.slice.injEq] at h
      omega
    obtain ⟨xa, xn, xc, hcut1, hcv1⟩ := cut_head a1 l c1 hcap n (by omega)
    obtain ⟨ua, uc, hcut2, hcv2⟩ := cut_from a1 l c1 hcap n (by omega)
    have HDQ := hide (HDS.out _ (l.take n) W1 (hcv1 W1 HR1.out) (by rw [List.length_take]; omega))
    have HV2 := hide (fun W h => hcv2 W (HV1.out W h))
    have HRQ := hide (fun v2 W h => HRT.out v2 (l.drop n) W h (by rw [List.length_drop]; omega))
    have HRM : Hid (readN b = if (decS (l.take n)).2 = 3 then (zeroN, 3) else match tableL (l.drop n) with
      | none => (zeroN, 3)
      | some t => (⟨0, (decS (l.take n)).1, t⟩, (decS (l.take n)).2)) := hide (by rw [HRN.out, if_neg (by omega)])
    have HCO := hide (decS_codes (l.take n))
    clear hcv1 hcv2 HRN HDS HRT hll hbig hcap hd g1
    generalize decS (l.take n) = DS at *
    generalize tableL (l.drop n) = TL at *
    generalize l.drop n = l2 at *
    obtain ⟨⟨dk, dL, dsh, dg⟩, er⟩ := DS
    unfold DecodedS at HDQ
    dsimp only at HDQ HRM HCO
    go_wp2_with fail
    refine HDQ.out.mono ?_
    rintro e W2 ⟨vl, rfl, hl2, hk2, he2, hf2, hb2⟩
    obtain ⟨la, lc, hvl⟩ : ∃ a c, vl = .slice a dL.length c := by obtain ⟨a, c, h, -⟩ := hl2; exact ⟨a, c, h⟩
    subst hvl
    have hs12 := HB1.out.size
    have HB2 := hide (HB1.out.trans (hb2.mono HB1.out.size))
    have HA2 := hide (HA1.out.below hb2 (Nat.le_refl _))
    have hcell2 : W2.cell? ⟨w.heap.size + 1, 0, none⟩ = some (.int .i64 (n : Int)) := (hb2.cell (p := ⟨w.heap.size + 1, 0, none⟩) (World.block_lt_of_cell? W1 ⟨w.heap.size + 1, 0, none⟩ hcell)).trans hcell
    have HL2 := hide hl2
    have HKE := hide (And.intro hk2 he2)
    have HF2 : Hid (∀ k, (Value.slice la dL.length lc).ownBlock = some k → w.heap.size < k) := hide (fun k hk => by
      have h1 := hf2 k hk
      have h2 := HA1.out.lt
      omega)
    clear hcell hl2 hk2 he2 hf2 hb2 HDQ z0 z1 z2 z3 y0 y1 y2 y3 HA1 HR1
    obtain ⟨W3, hW3⟩ : ∃ W3, W3 = W2.alloc (.cells #[.int .i64 dk, .slice la dL.length lc, .bool dsh, .int .i64 dg] 24) := ⟨_, rfl⟩
    have HB23 : Hid (Below W2.heap.size W2 W3) := hide (by rw [hW3]; exact (Below.refl _ _).alloc (Nat.le_refl _) _)
    have HS3 : Hid (Bx W3 W2.heap.size #[.int .i64 dk, .slice la dL.length lc, .bool dsh, .int .i64 dg]) := hide (by rw [hW3]; exact heap_alloc_new W2 _)
    have HB3 := hide (HB2.out.trans (HB23.out.mono HB2.out.size))
    have HA3 := hide (HA2.out.below HB23.out (Nat.le_refl _))
    have hcell3 : W3.cell? ⟨w.heap.size + 1, 0, none⟩ = some (.int .i64 (n : Int)) := (HB23.out.cell (p := ⟨w.heap.size + 1, 0, none⟩) (World.block_lt_of_cell? W2 ⟨w.heap.size + 1, 0, none⟩ hcell2)).trans hcell2
    have HL3 := hide (HL2.out.below HB23.out (Nat.le_refl _))
    go_upto_region 6 with fail
    rw [← hW3]
    obtain ⟨QB, hQB⟩ : ∃ QB, QB = W2.heap.size := ⟨_, rfl⟩
    have hQl : w.heap.size < QB := by have := HA2.out.lt; omega
    rw [← hQB] at HS3 ⊢
    clear hW3 hcell2 hQB HL2 HA2 HB2 HB23
    by_cases h3 : er = 3
    · have h3' : (er == 3) = true := beq_iff_eq.2 h3
      have HF : Hid ((readN b).2 = 3) := hide (by rw [HRM.out, if_pos h3])
      obtain ⟨z0, y0⟩ := HA3.out.cell 0
      obtain ⟨z1, y1⟩ := HA3.out.cell 1
      obtain ⟨z2, y2⟩ := HA3.out.cell 2
      obtain ⟨z3, y3⟩ := HA3.out.cell 3
      clear h3
      go_wp2
      refine bodyPost_ret (v := .tuple #[.agg #[.int .i64 0, .slice none 0 0, .bool false, .int .i64 0], .slice none 0 0, .bool false]) (by simp [results, Try.results52, go_sem, z0, z1, z2, z3]) rfl ?_
      exact ReadW.none HF.out (belowFourE HB3.out _ (Nat.le_refl _) _ _ _ _)
    have h3' : (er == 3) = false := beq_eq_false_iff_ne.2 h3
    have HH3 := hide h3
    clear h3
    go_wp2_with fail
    refine (HRQ.out _ _ (HV2.out W3 (HRW.out.below HB3.out (Nat.le_refl _)))).mono ?_
    rintro e W4 ⟨vt, t, rfl, ho4, hi4, ht4, hb4⟩
    obtain ⟨ta, tc, hvt⟩ := ho4.shape
    subst hvt
    have HB4 := hide (HB3.out.trans (hb4.mono HB3.out.size))
    have HA4 := hide (HA3.out.below hb4 (Nat.le_refl _))
    have HS4 := hide (HS3.out.below hb4 (Nat.le_refl _))
    have HL4 := hide (HL3.out.below hb4 (Nat.le_refl _))
    have HE4 := hide (ho4.rd hi4)
    have HTF : Hid (∀ k, (Value.slice ta t.length tc).ownBlock = some k → w.heap.size < k) := hide (fun k hk => by
      have h1 := (World.ownsRow.lt ho4 k hk).1
      have h2 := HA3.out.lt
      omega)
    have HT4 := hide ht4
    clear ho4 hi4 ht4 hb4 hcell3 HA3 HS3 HL3
    obtain ⟨z0, y0⟩ := HA4.out.cell 0
    obtain ⟨z1, y1⟩ := HA4.out.cell 1
    obtain ⟨z2, y2⟩ := HA4.out.cell 2
    obtain ⟨z3, y3⟩ := HA4.out.cell 3
    obtain ⟨s0, -⟩ := HS4.out.cell 0
    obtain ⟨s1, -⟩ := HS4.out.cell 1
    obtain ⟨s2, -⟩ := HS4.out.cell 2
    obtain ⟨s3, -⟩ := HS4.out.cell 3
    obtain ⟨ok, hok⟩ : ∃ ok, ok = TL.isSome := ⟨_, rfl⟩
    rw [← hok]
    have HOK := hide hok
    clear hok
    go_wp2
    refine bodyPost_ret (v := .tuple #[.agg #[.int .i64 dk, .slice la dL.length lc, .bool dsh, .int .i64 dg], .slice ta t.length tc, .bool ok]) (by simp [results, Try.results52, go_sem, z0, z1, z2, z3]) rfl ?_
    have hbt := butFourE W4 w.heap.size (.int .i64 dk) (.slice la dL.length lc) (.bool dsh) (.int .i64 dg)
    refine ⟨_, _, ⟨dk, dL, dsh, dg⟩, t, ok, rfl, HL4.out.but hbt (.inr fun k hk => by have := HF2.out k hk; omega), HKE.out.1, HKE.out.2, HE4.out.but hbt (.inr fun k hk => by have := HTF.out k hk; omega), (fun k hk => Nat.le_of_lt (HF2.out k hk)), (fun k hk => Nat.le_of_lt (HTF.out k hk)), (fun h => ?_), (fun h => ?_), belowFourE HB4.out _ (Nat.le_refl _) _ _ _ _⟩
    · rw [HRM.out, if_neg HH3.out]
      cases TL with
      | none => rfl
      | some t' => rw [h] at HOK; cases HOK.out
    · cases TL with
      | none => rw [h] at HOK; cases HOK.out
      | some t' =>
        refine ⟨er, by rw [HRM.out, if_neg HH3.out, HT4.out t' rfl], ?_⟩
        rcases HCO.out with h1 | ⟨h1, h2 | h2⟩
        · exact .inl h1
        · exact absurd h2 HH3.out
        · exact .inr ⟨h2, h1⟩

end Go.Proofs.Ytanmjihiceibbaa

