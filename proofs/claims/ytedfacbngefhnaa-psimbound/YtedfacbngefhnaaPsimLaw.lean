/- What the laws read of a run's rows. -/
import Derived.Test.YtedfacbngefhnaaPsimZ
import Derived.Laws.StructEq
namespace Go.Proofs.Ytedfacbngefhnaa
open Go.RowKit Go.Maps

theorem onlyBH {B : Nat} {w w' : World} (h : Only (fun k => ¬ k < B) w w') (hB : B ≤ w.heap.size) : Below B w w' := h.below hB fun k hk => by omega

/-- An operation's cells. -/
structure CAt (w : World) (b o : Nat) (c : Cal) : Prop where
  c0 : w.cell? ⟨b, o, none⟩ = some (.int .i64 c.p)
  c1 : w.cell? ⟨b, o + 1, none⟩ = some (.int .i64 c.seq)
  c2 : w.cell? ⟨b, o + 2, none⟩ = some (.int .i64 c.from_)
  c3 : w.cell? ⟨b, o + 3, none⟩ = some (.int .i64 c.to_)
  c4 : w.cell? ⟨b, o + 4, none⟩ = some (.int .i64 c.resp)
  c5 : w.cell? ⟨b, o + 5, none⟩ = some (.int .i64 c.op.code)
  c6 : w.cell? ⟨b, o + 6, none⟩ = some (.int .i64 c.op.a)
  c7 : w.cell? ⟨b, o + 7, none⟩ = some (.int .i64 c.op.b)

/-- The slice value v reads, in the world w, as the operations l. -/
def RdC (w : World) (v : Value) (l : List Cal) : Prop := ∃ a cap, v = .slice a l.length cap ∧ ∀ i, i < l.length → ∃ g, a = some ⟨g, 0, none⟩ ∧ CAt w g (i * 8) (l.getD i noCal)

theorem OwnC.rd {w : World} {v : Value} {l : List Cal} (h : OwnC w v l) : RdC w v l := by
  obtain ⟨a, c, hv⟩ := row_form h
  refine ⟨a, c, hv, fun i hi => ?_⟩
  obtain ⟨g, c', hv', hc⟩ := row_at h (by omega)
  rw [hv] at hv'
  simp only [Value.slice.injEq, true_and] at hv'
  obtain ⟨rfl, rfl⟩ := hv'
  have e := fun k (hk : k < 8) => calCells_get l i k hi hk
  exact ⟨g, rfl, hc _ _ (e 0 (by decide)), hc _ _ (e 1 (by decide)), hc _ _ (e 2 (by decide)), hc _ _ (e 3 (by decide)), hc _ _ (e 4 (by decide)), hc _ _ (e 5 (by decide)), hc _ _ (e 6 (by decide)), hc _ _ (e 7 (by decide))⟩

theorem CAt.below {w w' : World} {b o B : Nat} {x : Cal} (h : CAt w b o x) (hb : Below B w w') (hB : w.heap.size ≤ B) : CAt w' b o x :=
  ⟨cell_belowV h.c0 hb hB, cell_belowV h.c1 hb hB, cell_belowV h.c2 hb hB, cell_belowV h.c3 hb hB, cell_belowV h.c4 hb hB, cell_belowV h.c5 hb hB, cell_belowV h.c6 hb hB, cell_belowV h.c7 hb hB⟩

theorem RdC.below {w w' : World} {v : Value} {l : List Cal} (h : RdC w v l) {B : Nat} (hb : Below B w w') (hB : w.heap.size ≤ B) : RdC w' v l := by
  obtain ⟨a, c, hv, hc⟩ := h
  refine ⟨a, c, hv, fun i hi => ?_⟩
  obtain ⟨g, e, h8⟩ := hc i hi
  exact ⟨g, e, h8.below hb hB⟩

theorem RdC.at {w : World} {a : Option Addr} {n c : Nat} {l : List Cal} (h : RdC w (.slice a n c) l) {i : Nat} (hi : i < l.length) : ∃ g, a = some ⟨g, 0, none⟩ ∧ CAt w g (i * 8) (l.getD i noCal) := by
  obtain ⟨a', c', hv, hc⟩ := h
  simp only [Value.slice.injEq] at hv
  obtain ⟨rfl, -, rfl⟩ := hv
  exact hc i hi

theorem RdR.at' {w : World} {a : Option Addr} {n c : Nat} {l : List Rec} (h : RdR w (.slice a n c) l) {i : Nat} (hi : i < l.length) : ∃ b off, a = some ⟨b, off, none⟩ ∧ RecAt w b (off + i * 7) (l.getD i zeroR) := by
  obtain ⟨a', c', hv, _, _, _, _, h4⟩ := h
  simp only [Value.slice.injEq] at hv
  obtain ⟨rfl, -, rfl⟩ := hv
  rcases h4 with h4 | ⟨b, off, rfl, h5⟩
  · rw [h4] at hi; simp at hi
  · exact ⟨b, off, rfl, h5 i hi⟩

theorem EgM.logs {K : Nat → Prop} {w : World} {eb : Nat} {e : Eg} {N : Nat} (h : EgM K w eb e N) : e.log.length ≤ 64 * N ∧ ∀ r ∈ e.log, RecOk r := by
  obtain ⟨L, M, g, h1, h2, h3, -⟩ := h
  exact ⟨h3.log, h3.recs⟩

theorem neq_opH (w : World) (a b c d e f : Int) : (binOp .neq 26 (.agg #[.int .i64 a, .int .i64 b, .int .i64 c]) (.agg #[.int .i64 d, .int .i64 e, .int .i64 f])).run Try.prog w = .ok (.bool (!(a == d && b == e && c == f))) w := by
  have u3 := Try.underlying3
  have a3 := Try.isAgg3
  have z3 := Try.sizeOf3
  have hS : Try.prog.underlying 26 = some (.struct (Try.prog.fieldsOf 26)) := by kernel_rfl
  have hp : Try.prog.stoodInHeld 26 = false := by kernel_rfl
  rw [run_neq_struct, show (10000 : Nat) = 9999 + 1 from rfl, run_equalIn_agg w 9999 26 _ _ hS hp]
  simp only [Program.fieldsOf, Try.underlying26]
  go_simp
  by_cases h1 : a = d <;> by_cases h2 : b = e <;> by_cases h3 : c = f <;> simp [h1, h2, h3]

/-- What Once, Order and so on need of a run that came back. -/
theorem ran_one {n : Nat} {e0 : Eg} (hf : Fresh herlM n e0) (l : List EvP) {i : Nat} (hi : i < (runK n e0 l l.length).out.length) :
    let R := runK n e0 l l.length
    let c := R.out.getD i noCal
    (atC R.e.log c = (-1, 0) ∧ c.to_ < 0) ∨ ∃ j : Nat, j < R.e.log.length ∧ atC R.e.log c = ((j : Int), 1) ∧ (R.e.log.getD j zeroR).op = c.op ∧ (0 ≤ c.to_ → (R.e.log.getD j zeroR).resp = c.resp) := by
  have h := runK_inv hf l l.length (Nat.le_refl _)
  have hm : (runK n e0 l l.length).out.getD i noCal ∈ (runK n e0 l l.length).out := by
    rw [List.getD_eq_getElem?_getD, List.getElem?_eq_getElem hi, Option.getD_some]
    exact List.getElem_mem hi
  rcases h.one hm with h1 | ⟨j, r, h1, h2, h3, h4, h5⟩
  · exact .inl h1
  · have hg : (herlM.log (runK n e0 l l.length).e).getD j zeroR = r := by
      rw [List.getD_eq_getElem?_getD, h1]
      rfl
    refine .inr ⟨j, (List.getElem?_eq_some_iff.1 h1).1, h3, ?_, ?_⟩
    · show ((herlM.log (runK n e0 l l.length).e).getD j zeroR).op = _
      rw [hg]
      exact h4
    · show _ → ((herlM.log (runK n e0 l l.length).e).getD j zeroR).resp = _
      rw [hg]
      exact h5

theorem RdI.atV {w : World} {ao : Option Addr} {n cap : Nat} {l : List Int} (h : RdI w (.slice ao n cap) l) {i : Nat} (hi : i < l.length) : ∃ b off, ao = some ⟨b, off, none⟩ ∧ w.cell? ⟨b, off + i, none⟩ = some (.int .i64 (l.getD i 0)) := by
  obtain ⟨ao', cap', hv, _, _, _, _, h5⟩ := h
  simp only [Value.slice.injEq] at hv
  obtain ⟨rfl, -, rfl⟩ := hv
  rcases h5 with h5 | ⟨b, off, rfl, h6⟩
  · rw [h5] at hi; simp at hi
  · exact ⟨b, off, rfl, h6 i hi⟩

/-- Where the first so many operations stand in the log. -/
def plcs (log : List Rec) (out : List Cal) (i : Nat) : List Int := (out.take i).map fun c => (atC log c).1

theorem plcs_succ (log : List Rec) (out : List Cal) {i : Nat} (hi : i < out.length) : plcs log out (i + 1) = plcs log out i ++ [(atC log (out.getD i noCal)).1] := by
  unfold plcs
  have hr : out[i]? = some (out.getD i noCal) := by simp [List.getD, hi]
  rw [List.take_add_one, hr]
  simp

theorem plcs_len (log : List Rec) (out : List Cal) {i : Nat} (hi : i ≤ out.length) : (plcs log out i).length = i := by
  unfold plcs
  simp
  omega

theorem plcs_get (log : List Rec) (out : List Cal) {i : Nat} (hi : i < out.length) : (plcs log out out.length).getD i 0 = (atC log (out.getD i noCal)).1 := by
  unfold plcs
  simp [List.getD, hi]

theorem plcs_i64 (log : List Rec) (out : List Cal) (h : log.length ≤ 1000000) (i : Nat) : ∀ x ∈ plcs log out i, I64 x := by
  intro x hx
  unfold plcs at hx
  obtain ⟨c, -, rfl⟩ := List.mem_map.1 hx
  have := atT_range log c log.length
  unfold atC
  exact ⟨by omega, by omega⟩

theorem ran_order {n : Nat} {e0 : Eg} (hf : Fresh herlM n e0) (l : List EvP) {i k : Nat} (hi : i < (runK n e0 l l.length).out.length) (hk : k < (runK n e0 l l.length).out.length) :
    let R := runK n e0 l l.length
    ¬ (0 ≤ (R.out.getD i noCal).to_ ∧ (R.out.getD i noCal).to_ < (R.out.getD k noCal).from_ ∧ 0 ≤ (atC R.e.log (R.out.getD k noCal)).1 ∧ (atC R.e.log (R.out.getD k noCal)).1 < (atC R.e.log (R.out.getD i noCal)).1) := by
  have h := runK_inv hf l l.length (Nat.le_refl _)
  have hm : ∀ {j}, j < (runK n e0 l l.length).out.length → (runK n e0 l l.length).out.getD j noCal ∈ (runK n e0 l l.length).out := fun {j} hj => by
    rw [List.getD_eq_getElem?_getD, List.getElem?_eq_getElem hj, Option.getD_some]
    exact List.getElem_mem hj
  exact h.ordered (hm hi) (hm hk)

/-- What one call of a script leaves of the steps that are told. -/
theorem ev_most {e : Eg} {n : Nat} (ho : herlM.ok e) (hn : e.n = n) (x : EvP) {e2 : Eg} {V : Int} (h2 : evE herlM e x = e2) (hV : wasE herlM e x = V) :
    herlM.stepsOf e2 x.p = V ∧ e2.n = n ∧ 0 ≤ V ∧ V ≤ (bound12 n : Int) ∧ (herlM.isBusy e2 x.p = true → V < (bound12 n : Int)) := by
  obtain ⟨g1, g2, -⟩ := evE_grows herlM_ok ho x
  have hs := evE_steps herlM_ok ho x
  rw [h2] at g1 g2 hs
  rw [hV] at hs
  have g2' : e2.n = e.n := g2
  have hm := stepsOf_most herlM_bd g1 x.p
  have e3 : herlM.n e2 = n := g2'.trans hn
  rw [hs, e3] at hm
  exact ⟨hs, g2'.trans hn, hm⟩

/-- A step of one that is busy ends it, or counts. -/
theorem busy_step {e : Eg} {n : Nat} (ho : herlM.ok e) (hn : e.n = n) {p : Int} (hb : herlM.isBusy e p = true) :
    (herlM.step e p).2.2 = true ∨ ((herlM.step e p).2.2 = false ∧ herlM.isBusy (herlM.step e p).1 p = true ∧ herlM.stepsOf (herlM.step e p).1 p = herlM.stepsOf e p + 1 ∧ (herlM.step e p).1.n = n) := by
  obtain ⟨q, h1, h2, h3, h4, h5⟩ := herlM.step_busy herlM_ok ho hb
  obtain ⟨g1, g2, g3, -⟩ := herlM_ok.go e q ho h3 h4
  rw [h5]
  by_cases a : herlM.busy (herlM.go e q) q = true
  · right
    rw [if_pos a, h1, herlM.isBusy_nat (by rw [g2]; exact h3), herlM.stepsOf_nat (by rw [g2]; exact h3), herlM.stepsOf_nat h3, g3]
    refine ⟨rfl, a, by omega, ?_⟩
    have : herlM.n (herlM.go e q) = herlM.n e := g2
    exact this.trans hn
  · left
    rw [if_neg a]

theorem bound12_le {n : Nat} (h : n ≤ 64) : 12 * ((n : Int) + 1) * ((n : Int) + 1) = (bound12 n : Int) ∧ bound12 n ≤ 50700 := by
  constructor
  · unfold bound12
    push_cast
    rfl
  · unfold bound12
    have h1 : 12 * (n + 1) ≤ 12 * 65 := by omega
    have := Nat.mul_le_mul h1 (show n + 1 ≤ 65 by omega)
    omega

theorem bound12_ge (n : Nat) : 12 ≤ bound12 n := by
  unfold bound12
  exact Nat.le_trans (show 12 ≤ 12 * (n + 1) by omega) (Nat.le_mul_of_pos_right _ (by omega))

/-- The engine behind one call of a script, with what Steps and Busy must tell. -/
structure TailB (w : World) (eb n N : Nat) (M : Int) (p V : Int) (e : Eg) (W : World) : Prop where
  eng : EgM (fun k => k < w.heap.size) W eb e N
  below : Below w.heap.size w W
  n : e.n = n
  stp : herlM.stepsOf e p = V
  v0 : 0 ≤ V
  v1 : V ≤ M
  v2 : V = M → herlM.isBusy e p = false

theorem TailB.of {w : World} {eb n N N' : Nat} {M : Int} {e : Eg} (ho : herlM.ok e) (hn : e.n = n) {x : EvP} {e2 : Eg} {V : Int} (h2 : evE herlM e x = e2) (hV : wasE herlM e x = V) (hM : M = (bound12 n : Int)) {W : World} (hE : EgM (fun k => k < w.heap.size) W eb e2 N') (hN : N' ≤ N) (hb : Below w.heap.size w W) : TailB w eb n N M x.p V e2 W := by
  obtain ⟨a1, a2, a3, a4, a5⟩ := ev_most ho hn x h2 hV
  refine ⟨hE.mono hN, hb, a2, a1, a3, by omega, fun h => ?_⟩
  cases hbz : herlM.isBusy e2 x.p with
  | false => rfl
  | true => have := a5 hbz; omega

theorem TailB.later {w : World} {eb n N : Nat} {M p V : Int} {e : Eg} {W W' : World} (h : TailB w eb n N M p V e W) (hb : Below W.heap.size W W') : TailB w eb n N M p V e W' :=
  ⟨h.eng.below hb, h.below.trans (hb.mono h.below.size), h.n, h.stp, h.v0, h.v1, h.v2⟩

theorem TailB.steps {w : World} {eb n N : Nat} {M p V : Int} {e : Eg} {W : World} (h : TailB w eb n N M p V e W) (hN : N ≤ 150000) (W' : World) (hb : Below W.heap.size W W') :
    Calls Try.prog 14 #[ptr eb, .int .i64 p] W' fun r w' => r = .returned (.int .i64 V) ∧ Below W.heap.size W w' := by
  have := steps_any (h.eng.below hb) hN p
  rw [h.stp] at this
  exact this.mono fun r w' hr => ⟨hr.1, hb.trans (hr.2.mono hb.size)⟩

theorem TailB.busy {w : World} {eb n N : Nat} {M p V : Int} {e : Eg} {W : World} (h : TailB w eb n N M p V e W) (hV : V = M) (W' : World) (hb : Below W.heap.size W W') :
    Calls Try.prog 13 #[ptr eb, .int .i64 p] W' fun r w' => r = .returned (.bool false) ∧ Below W.heap.size W w' := by
  have := busy_any (h.eng.below hb) p
  rw [h.v2 hV] at this
  exact this.mono fun r w' hr => ⟨hr.1, by rw [hr.2]; exact hb⟩

end Go.Proofs.Ytedfacbngefhnaa
