import Derived.Test.YtddhcohjmgdajaaDoorPack5
import Derived.Test.YtddhcohjmgdajaaDoorPack2
import Derived.Test.YtddhcohjmgdajaaDoorCards
import Derived.Test.YtddhcohjmgdajaaDoorTie
import Derived.LaidMore
import Derived.OpenShut
import Derived.Stop.Joined
import Derived.Test.YtddhcohjmgdajaaDoorPack1
import Derived.Test.YtddhcohjmgdajaaDoorPack3
/- The table of fields, a package-level variable of schema: what it holds, from the row's list. -/
namespace Go.Proofs.YtddhcohjmgdajaaDoor
open Go.ChangeShapes Go.WideShapes Go.ChangeAt Go.RowKit

/-- The fields of a version, as numbers. -/
def fieldsI (v : Int) : List Int := if v = 1 then [1, 2, 4] else if v = 2 then [1, 2, 3, 4] else [1, 2, 3, 4, 5]

/-- The table of fields lies there, as the program's text has it. -/
structure TabF (w : World) : Prop where
  lt : 0 < w.heap.size
  one : ∃ x, w.cell? ⟨0, 1, none⟩ = some x ∧ RdI w x [1, 2, 4]
  two : ∃ x, w.cell? ⟨0, 2, none⟩ = some x ∧ RdI w x [1, 2, 3, 4]
  three : ∃ x, w.cell? ⟨0, 3, none⟩ = some x ∧ RdI w x [1, 2, 3, 4, 5]

set_option maxRecDepth 100000 in
theorem TabF.below {w w' : World} (h : TabF w) {B : Nat} (hb : Below B w w') (hB : w.heap.size ≤ B) : TabF w' := by
  have hl := h.lt
  have hs := hb.size
  have hc : ∀ i, w'.cell? ⟨0, i, none⟩ = w.cell? ⟨0, i, none⟩ := fun i => by unfold World.cell?; rw [hb.block 0 (by omega)]
  refine ⟨by omega, ?_, ?_, ?_⟩
  · obtain ⟨x, h1, h2⟩ := h.one
    exact ⟨x, (hc 1).trans h1, h2.below hb hB⟩
  · obtain ⟨x, h1, h2⟩ := h.two
    exact ⟨x, (hc 2).trans h1, h2.below hb hB⟩
  · obtain ⟨x, h1, h2⟩ := h.three
    exact ⟨x, (hc 3).trans h1, h2.below hb hB⟩

set_option maxRecDepth 100000 in
theorem TabF.get {w : World} (h : TabF w) (v : Int) (h1 : 1 ≤ v) (h3 : v ≤ 3) : ∃ x, w.cell? ⟨0, v.toNat, none⟩ = some x ∧ RdI w x (fieldsI v) := by
  have hv : v = 1 ∨ v = 2 ∨ v = 3 := by omega
  rcases hv with rfl | rfl | rfl
  · exact h.one
  · exact h.two
  · exact h.three

set_option maxRecDepth 100000 in
theorem gTab : Tryd.prog.globalNamed "ferryman/schema.fieldsOf" = some 0 := by kernel_rfl

set_option maxRecDepth 100000 in
theorem gTabType : (Tryd.prog.globals[0]?).map (·.type) = some 110 := by kernel_rfl

set_option maxRecDepth 100000 in
theorem lits_inj {k : IntKind} {H : Type} : ∀ {a b : List Int}, (lits k a : List (DataW H)) = lits k b → a = b
  | [], [], _ => rfl
  | [], y :: b, h => by simp [lits] at h
  | x :: a, [], h => by simp [lits] at h
  | x :: a, y :: b, h => by
    simp only [lits, List.map_cons, List.cons.injEq, DataW.lit.injEq, Lit.int.injEq, true_and] at h
    rw [h.1, lits_inj h.2]

set_option maxRecDepth 100000 in
/-- A row of numbers that reads as listed. -/
theorem open_listed {H : Type} {enc : TypeId × Value → H} {w : World} {base fuel : Nat} {held : Bool} {cs : List Value} {L : List Int} {p : List MemPlace} (h : DataW.trod enc Tryd.prog w base (fun _ => true) held fuel 109 cs = some (.slice (lits .i64 L) [], p)) : ∃ x, cs = [x] ∧ RdI w x L := by
  rcases open_ints Tryd.underlying109 Tryd.underlying3 (by kernel_rfl) h with ⟨_, hx⟩ | ⟨y, l, c, zs, hcs, _, hl, hm, hz, hx, hcell, hwz⟩
  · simp at hx
  · simp only [Prod.mk.injEq, DataW.slice.injEq] at hx
    rw [lits_inj hx.1.1]
    exact ⟨_, hcs, RdI.ofRow hl hm (by simpa using hz) hcell hwz⟩

set_option maxRecDepth 100000 in
theorem tabs {W : World} (h : laidMetH Tryd.prog [("ferryman/schema.fieldsOf", Rows.laid_ferryman_schema_fieldsOf)] W) : TabF W := by
  rw [MakeChecks.laidMetH_plain _ _ _ (by kernel_rfl)] at h
  obtain ⟨ps, ⟨g0, t0, cs0, f0, p0, q0, hg0, ht0, hv0, hd0, _, _⟩, _, _⟩ := h
  obtain rfl := Option.some.inj (gTab.symm.trans hg0)
  obtain rfl := Option.some.inj (gTabType.symm.trans ht0)
  obtain ⟨xs, m, rfl, hx, hlen, hn, hel⟩ := DataW.trod_array Tryd.underlying110 hd0
  have c1 : Tryd.prog.cellsOf 109 = 1 := by kernel_rfl
  have c4 : Tryd.prog.cellsOf 110 = 4 := by kernel_rfl
  rw [c4] at hlen
  have e1 := hel 1 (by decide)
  have e2 := hel 2 (by decide)
  have e3 := hel 3 (by decide)
  rw [c1] at e1 e2 e3
  simp only [Prod.mk.injEq, Rows.laid_ferryman_schema_fieldsOf, DataW.agg.injEq] at hx
  have hc := fun i => World.var?_cell hg0 hv0 i
  match xs, hn, hx, e1, e2, e3, hcs : cs0.toList, hlen with
  | [(x0, y0), (x1, y1), (x2, y2), (x3, y3)], _, hx, e1, e2, e3, [a0, a1, a2, a3], _ =>
    have hcc : cs0 = #[a0, a1, a2, a3] := by rw [← Array.toArray_toList (xs := cs0), hcs]
    rw [hcs] at e1 e2 e3
    subst hcc
    simp only [List.map_cons, List.map_nil, List.cons.injEq, and_true] at hx
    obtain ⟨⟨-, h1, h2, h3⟩, -⟩ := hx
    subst h1 h2 h3
    obtain ⟨v1, w1, r1⟩ := open_listed (L := [1, 2, 4]) (p := y1) e1
    obtain ⟨v2, w2, r2⟩ := open_listed (L := [1, 2, 3, 4]) (p := y2) e2
    obtain ⟨v3, w3, r3⟩ := open_listed (L := [1, 2, 3, 4, 5]) (p := y3) e3
    simp at w1 w2 w3
    subst w1 w2 w3
    refine ⟨?_, ⟨_, hc 1, r1⟩, ⟨_, hc 2, r2⟩, ⟨_, hc 3, r3⟩⟩
    have h := hc 1
    unfold World.cell? at h
    cases hh : W.heap[0]? with
    | none => rw [hh] at h; simp at h
    | some o => exact (Array.getElem?_eq_some_iff.1 hh).1

set_option maxRecDepth 100000 in
theorem door_met (os : Os) (args : Array Value) : laidMetH Tryd.prog [("ferryman/schema.fieldsOf", Rows.laid_ferryman_schema_fieldsOf)] ((World.doorLaid Tryd.prog 400 os).forCall (fun _ _ => 0) ⟨#[], args, []⟩).memory :=
  laidMetH_of_parts3 (fuel := 8) (laidMet_of_run' 8 (by kernel_rfl) (by kernel_rfl)) (by kernel_rfl) (by kernel_rfl)

end Go.Proofs.YtddhcohjmgdajaaDoor

/- Contracts of objs: within and what it answers, cut, full. -/
namespace Go.Proofs.YtddhcohjmgdajaaDoor
open Go.RowKit

set_option maxRecDepth 100000 in
/-- What lies from lo to hi. -/
theorem is_any (n lo hi : Int) (a b : Nat) (w : World) (ha : w.cell? ⟨a, 0, none⟩ = some (.int .i64 lo)) (hb : w.cell? ⟨b, 0, none⟩ = some (.int .i64 hi)) :
    Calls Tryd.prog 94 #[.int .i64 n, .pointer (some ⟨a, 0, none⟩), .pointer (some ⟨b, 0, none⟩)] w fun e w' => e = .returned (.bool (decide (lo ≤ n ∧ n ≤ hi))) ∧ w' = w := by
  have HD : Hid ((decide (lo ≤ n) && decide (n ≤ hi)) = decide (lo ≤ n ∧ n ≤ hi)) := (Bool.decide_and _ _).symm
  have HT : Hid (lo ≤ n → decide (n ≤ hi) = decide (lo ≤ n ∧ n ≤ hi)) := fun h => by rw [← HD.out, decide_eq_true h, Bool.true_and]
  by_cases h1 : lo ≤ n
  · go_enter Tryd.func94, Tryd.ntmps94
    go_wp2
    go_ret
    exact ⟨ret_b (HT.out h1), rfl⟩
  · go_enter Tryd.func94, Tryd.ntmps94
    go_wp2
    go_ret
    exact ⟨ret_b (by rw [decide_eq_false (Int.not_le.2 h1), Bool.false_and]), rfl⟩

set_option maxRecDepth 100000 in
theorem within_any (lo hi : Int) (w : World) :
    Calls Tryd.prog 74 #[.int .i64 lo, .int .i64 hi] w fun e w' => ∃ a b, e = .returned (.func (.func 94) #[] #[.pointer (some ⟨a, 0, none⟩), .pointer (some ⟨b, 0, none⟩)]) ∧ w'.cell? ⟨a, 0, none⟩ = some (.int .i64 lo) ∧ w'.cell? ⟨b, 0, none⟩ = some (.int .i64 hi) ∧ Below w.heap.size w w' := by
  have hmf : ∀ (fn : Fn) (first cap : Array Value) (w : World), (Instr.makeFunc fn first cap).run Tryd.prog w = .ok (.func fn first cap) w := fun _ _ _ _ => rfl
  have HB : Hid (∀ x y, Below w.heap.size w ((w.alloc x).alloc y)) := fun x y => ((Below.refl _ _).alloc (Nat.le_refl _) x).alloc (by simp) y
  go_enter Tryd.func74, Tryd.ntmps74
  go_wp2
  go_ret
  refine ⟨_, _, rfl, ?_, ?_, HB.out _ _⟩
  · rw [World.cell?_alloc_past _ _ _ (by simp), World.cell?_alloc_at _ _ _ _ rfl]; rfl
  · rw [World.cell?_alloc_at _ _ _ _ (by simp)]; rfl

theorem cut_maxmin (n : Int) : max (-1099511627776) (min n 1099511627776) = cutZ n := by
  unfold cutZ
  split
  · omega
  · split <;> omega

end Go.Proofs.YtddhcohjmgdajaaDoor

/- Contracts of objs: mayLine, mayPairs. -/
namespace Go.Proofs.YtddhcohjmgdajaaDoor
open Go.RowKit

/-- What the next key may be at the least. -/
def leastAt (l : List Int) (k : Nat) : Int := if k = 0 then 0 else l.getD (k - 2) 0 + 1

theorem pairAt_least {lo : Int} {l : List Int} {k : Nat} (hk : k % 2 = 0) (hall : ∀ j, j < k → j % 2 = 0 → PairAt lo l j) : PairAt lo l k ↔ (leastAt l k ≤ l.getD k 0 ∧ l.getD k 0 ≤ 255) ∧ lo ≤ l.getD (k + 1) 0 ∧ l.getD (k + 1) 0 ≤ 1099511627776 := by
  unfold PairAt leastAt
  by_cases h0 : k = 0
  · subst h0
    simp
    omega
  · rw [if_neg h0]
    have hp := (hall (k - 2) (by omega) (by omega)).1
    constructor
    · rintro ⟨h1, h2, h3, h4, h5⟩
      exact ⟨⟨by have := h3 (by omega); omega, h2⟩, h4, h5⟩
    · rintro ⟨⟨h1, h2⟩, h4, h5⟩
      exact ⟨by omega, h2, fun _ => by omega, h4, h5⟩

end Go.Proofs.YtddhcohjmgdajaaDoor

/- Contracts of objs: mayNumbers, May. -/
namespace Go.Proofs.YtddhcohjmgdajaaDoor
open Go.RowKit

theorem nums_one {kind : Int} (hk : kind = 0 ∨ kind = 1) (l : List Int) : (0 ≤ kind ∧ kind < 6 ∧ NumsOk kind l) ↔ l.length = 1 ∧ -1099511627776 ≤ l.getD 0 0 ∧ l.getD 0 0 ≤ 1099511627776 := by
  rw [numsOk_list (by omega) (by omega)]
  constructor
  · rintro ⟨_, _, _, h1, h2⟩
    exact ⟨h1 (by omega), h2 0 (by have := h1 (by omega); omega)⟩
  · rintro ⟨h1, h2⟩
    refine ⟨by omega, by omega, by omega, fun _ => h1, fun j hj => ?_⟩
    have e : j = 0 := by omega
    rw [e]
    exact h2

theorem nums_line {kind : Int} (hk : kind = 2 ∨ kind = 3) (l : List Int) : (0 ≤ kind ∧ kind < 6 ∧ NumsOk kind l) ↔ l.length ≤ 64 ∧ InBounds l := by
  rw [numsOk_list (by omega) (by omega)]
  constructor
  · rintro ⟨_, _, h1, _, h2⟩
    exact ⟨h1, h2⟩
  · rintro ⟨h1, h2⟩
    exact ⟨by omega, by omega, h1, fun h => by omega, h2⟩

theorem nums_store (l : List Int) : (0 ≤ (4 : Int) ∧ (4 : Int) < 6 ∧ NumsOk 4 l) ↔ PairsOk (-1099511627776) l := by
  unfold NumsOk
  rw [if_pos rfl]
  exact ⟨fun h => h.2.2, fun h => ⟨by decide, by decide, h⟩⟩

theorem nums_ledger (l : List Int) : (0 ≤ (5 : Int) ∧ (5 : Int) < 6 ∧ NumsOk 5 l) ↔ PairsOk 0 l := by
  unfold NumsOk
  rw [if_neg (by decide), if_pos rfl]
  exact ⟨fun h => h.2.2, fun h => ⟨by decide, by decide, h⟩⟩

end Go.Proofs.YtddhcohjmgdajaaDoor

/- Contracts of objs: May, Fits, Same, own, seal. -/
namespace Go.Proofs.YtddhcohjmgdajaaDoor
open Go.RowKit

theorem may_split (kind : Int) (l : List Int) (shut : Bool) (g : Int) : MayS ⟨kind, l, shut, g⟩ ↔ (shut = false → g = 0) ∧ (0 ≤ g ∧ g ≤ 2) ∧ (0 ≤ kind ∧ kind < 6 ∧ NumsOk kind l) :=
  ⟨fun h => ⟨h.2.2.1, ⟨h.1, h.2.1⟩, h.2.2.2.1, h.2.2.2.2.1, h.2.2.2.2.2⟩, fun h => ⟨h.2.1.1, h.2.1.2, h.1, h.2.2.1, h.2.2.2.1, h.2.2.2.2⟩⟩

end Go.Proofs.YtddhcohjmgdajaaDoor

/- Contracts of objs: Fits, Same, Start, own, seal. -/
namespace Go.Proofs.YtddhcohjmgdajaaDoor
open Go.RowKit

set_option maxRecDepth 100000 in
set_option maxHeartbeats 1000000 in
theorem fits_any (o : Opn) (w : World) :
    Calls Tryd.prog 59 #[opV o] w fun e w' => e = .returned (.bool (decide (FitsO o))) ∧ Below w.heap.size w w' := by
  obtain ⟨code, a, b⟩ := o
  have HW := hide' (fun p q W => within_any p q W)
  have HS := hide' (fun n l2 h2 a2 b2 W p1 p2 => is_any n l2 h2 a2 b2 W p1 p2)
  have HM : Hid (FitsO ⟨code, a, b⟩ ↔ (0 ≤ code ∧ code ≤ 10) ∧ (-1099511627776 ≤ a ∧ a ≤ 1099511627776) ∧ (-1099511627776 ≤ b ∧ b ≤ 1099511627776)) :=
    ⟨fun h => ⟨⟨h.1, h.2.1⟩, ⟨h.2.2.1, h.2.2.2.1⟩, h.2.2.2.2⟩, fun h => ⟨h.1.1, h.1.2, h.2.1.1, h.2.1.2, h.2.2⟩⟩
  obtain ⟨R, hR⟩ : ∃ R, R = decide (FitsO ⟨code, a, b⟩) := ⟨_, rfl⟩
  rw [← hR]
  have HR := hide' hR
  have HBA : Hid (∀ x, Below w.heap.size w (w.alloc x)) := fun x => (Below.refl _ _).alloc (Nat.le_refl _) x
  clear hR
  have go : ∀ t1 t2 t3, Hid (decide (0 ≤ code ∧ code ≤ 10) = t1) → Hid (decide (-1099511627776 ≤ a ∧ a ≤ 1099511627776) = t2) → Hid (decide (-1099511627776 ≤ b ∧ b ≤ 1099511627776) = t3) → Hid ((t1 && t2 && t3) = R) →
      Calls Tryd.prog 59 #[.agg #[.int .i64 code, .int .i64 a, .int .i64 b]] w fun e w' => e = .returned (.bool R) ∧ Below w.heap.size w w' := by
    intro t1 t2 t3 H1 H2 H3 HF
    go_enter Tryd.func59, Tryd.ntmps59
    go_wp2_with fail
    refine (HW.out _ _ _).mono ?_
    rintro e W1 ⟨a1, b1, rfl, hc1, hc2, hb1⟩
    have HB1 := hide' ((HBA.out _).trans (hb1.mono (HBA.out _).size))
    have HX1 := hide' ((hb1.block w.heap.size (by simp)).trans (heap_alloc_new w _))
    have HC1 := hide' hc1
    have HC2 := hide' hc2
    clear hb1 hc1 hc2
    go_wp2_with fail
    refine (HW.out _ _ _).mono ?_
    rintro e W2 ⟨a2, b2, rfl, hd1, hd2, hb2⟩
    have hx := (hb2.block w.heap.size (Array.getElem?_eq_some_iff.1 HX1.out).1).trans HX1.out
    have q0 := cell_of_row W2 w.heap.size 0 _ _ _ hx
    have q1 := cell_of_row W2 w.heap.size 1 _ _ _ hx
    have q2 := cell_of_row W2 w.heap.size 2 _ _ _ hx
    have hc1 := (hb2.cell (World.block_lt_of_cell? W1 ⟨a1, 0, none⟩ HC1.out)).trans HC1.out
    have hc2 := (hb2.cell (World.block_lt_of_cell? W1 ⟨b1, 0, none⟩ HC2.out)).trans HC2.out
    have HB2 := hide' (HB1.out.trans (hb2.mono HB1.out.size))
    have HC1' := hide' hc1
    have HC2' := hide' hc2
    have HD1' := hide' hd1
    have HD2' := hide' hd2
    clear hb2 hx HX1 HC1 HC2 hc1 hc2 hd1 hd2
    go_wp2_with fail
    refine (HS.out _ _ _ _ _ _ HC1'.out HC2'.out).mono ?_
    rintro e W3 ⟨rfl, rfl⟩
    rw [H1.out]
    cases t1
    · go_wp2
      go_ret
      exact ⟨ret_b (by rw [← HF.out]; rfl), HB2.out⟩
    · go_wp2_with fail
      refine (HS.out _ _ _ _ _ _ HD1'.out HD2'.out).mono ?_
      rintro e W3 ⟨rfl, rfl⟩
      rw [H2.out]
      cases t2
      · go_wp2
        go_ret
        exact ⟨ret_b (by rw [← HF.out]; rfl), HB2.out⟩
      · go_wp2_with fail
        refine (HS.out _ _ _ _ _ _ HD1'.out HD2'.out).mono ?_
        rintro e W3 ⟨rfl, rfl⟩
        rw [H3.out]
        go_wp2
        go_ret
        exact ⟨ret_b (by rw [← HF.out]; rfl), HB2.out⟩
  refine go _ _ _ rfl rfl rfl (hide' ?_)
  rw [HR.out, ← Bool.decide_and, ← Bool.decide_and]
  exact decide_eq_decide.2 ⟨fun h => HM.out.2 ⟨h.1.1, h.1.2, h.2⟩, fun h => ⟨⟨(HM.out.1 h).1, (HM.out.1 h).2.1⟩, (HM.out.1 h).2.2⟩⟩

end Go.Proofs.YtddhcohjmgdajaaDoor

/- Contracts of schema: within, Fits. -/
namespace Go.Proofs.YtddhcohjmgdajaaDoor
open Go.RowKit

set_option maxRecDepth 100000 in
set_option maxHeartbeats 1000000 in
theorem inR_any (n a b : Int) (B : Bool) (hB : B = decide (a ≤ n ∧ n ≤ b)) (w : World) :
    Calls Tryd.prog 58 #[.int .i64 n, .int .i64 a, .int .i64 b] w fun e w' => e = .returned (.bool B) ∧ w' = w := by
  have HE := hide hB
  clear hB
  by_cases h1 : a ≤ n
  · by_cases h2 : n ≤ b
    · have HT : Hid (true = B) := hide (by rw [HE.out, decide_eq_true ⟨h1, h2⟩])
      clear HE
      go_enter Tryd.func58, Tryd.ntmps58
      go_wp2
      go_ret
      exact ⟨ret_b HT.out, rfl⟩
    · have HT : Hid (false = B) := hide (by rw [HE.out, decide_eq_false fun h => h2 h.2])
      clear HE
      go_enter Tryd.func58, Tryd.ntmps58
      go_wp2
      go_ret
      exact ⟨ret_b HT.out, rfl⟩
  · have HT : Hid (false = B) := hide (by rw [HE.out, decide_eq_false fun h => h1 h.1])
    clear HE
    go_enter Tryd.func58, Tryd.ntmps58
    go_wp2
    go_ret
    exact ⟨ret_b HT.out, rfl⟩

theorem belowSeven' {C : Nat} {w0 w : World} (h : Below C w0 w) (R : Nat) (hR : C ≤ R) (x0 x1 x2 x3 x4 x5 x6 : Value) : Below C w0 (((((((w.setCell ⟨R, 0, none⟩ x0).setCell ⟨R, 1, none⟩ x1).setCell ⟨R, 2, none⟩ x2).setCell ⟨R, 3, none⟩ x3).setCell ⟨R, 4, none⟩ x4).setCell ⟨R, 5, none⟩ x5).setCell ⟨R, 6, none⟩ x6) :=
  ((((((h.setCell hR _).setCell hR _).setCell hR _).setCell hR _).setCell hR _).setCell hR _).setCell hR _

theorem fitsR_parts (r : Rec) : FitsR r ↔ (0 ≤ r.idx ∧ r.idx ≤ 4611686018427387903) ∧ (0 ≤ r.proc ∧ r.proc ≤ 64) ∧ (0 ≤ r.seq ∧ r.seq ≤ 4611686018427387903) ∧ FitsO r.op ∧ (-1125899906842624 ≤ r.resp ∧ r.resp ≤ 1125899906842624) := by
  unfold FitsR
  constructor
  · rintro ⟨h1, h2, h3, h4, h5, h6, h7, h8, h9⟩
    exact ⟨⟨h2, by omega⟩, ⟨h6, h7⟩, ⟨h4, by omega⟩, h1, h8, h9⟩
  · rintro ⟨⟨h2, h3⟩, ⟨h6, h7⟩, ⟨h4, h5⟩, h1, h8, h9⟩
    exact ⟨h1, h2, by omega, h4, by omega, h6, h7, h8, h9⟩

set_option maxRecDepth 100000 in
set_option maxHeartbeats 2000000 in
theorem fitsR_any (r : Rec) (w : World) :
    Calls Tryd.prog 41 #[recV r] w fun e w' => e = .returned (.bool (decide (FitsR r))) ∧ Below w.heap.size w w' := by
  obtain ⟨B, hB⟩ : ∃ B, B = decide (FitsR r) := ⟨_, rfl⟩
  rw [← hB]
  have HP := hide (fitsR_parts r)
  have HF0 := hide (fun W => fits_any r.op W)
  have HB := hide hB
  clear hB
  obtain ⟨idx, proc, seq, ⟨code, a, b⟩, resp⟩ := r
  show Calls Tryd.prog _ #[.agg #[.int .i64 idx, .int .i64 proc, .int .i64 seq, .int .i64 code, .int .i64 a, .int .i64 b, .int .i64 resp]] w _
  have HB0 : Hid (∀ X, Below w.heap.size w (w.alloc X)) := fun X => (Below.refl _ _).alloc (Nat.le_refl _) X
  have X1 : Hid (∀ cs, Br (w.alloc (.cells cs 48)) w.heap.size cs) := fun cs => heap_alloc_new w _
  have HF : Hid (∀ W, Calls Tryd.prog 59 #[.agg #[.int .i64 code, .int .i64 a, .int .i64 b]] W fun e w' => e = .returned (.bool (decide (FitsO ⟨code, a, b⟩))) ∧ Below W.heap.size W w') := HF0.out
  clear HF0
  have HW := hide (fun n a b B hB W => inR_any n a b B hB W)
  by_cases h1 : 0 ≤ idx ∧ idx ≤ 4611686018427387903
  case neg =>
    have HT : Hid (false = B) := hide (by rw [HB.out, decide_eq_false fun h => h1 (HP.out.1 h).1])
    have HD := hide (decide_eq_false h1).symm
    clear HB HP h1 HF
    go_enter Tryd.func41, Tryd.ntmps41
    go_wp2_with fail
    refine (HW.out _ _ _ _ HD.out _).mono ?_
    rintro e W1 ⟨rfl, rfl⟩
    go_wp2
    go_ret
    exact ⟨ret_b HT.out, HB0.out _⟩
  have HD1 := hide (decide_eq_true h1).symm
  by_cases h2 : 0 ≤ proc ∧ proc ≤ 64
  case neg =>
    have HT : Hid (false = B) := hide (by rw [HB.out, decide_eq_false fun h => h2 (HP.out.1 h).2.1])
    have HD2 := hide (decide_eq_false h2).symm
    clear HB HP h1 h2 HF
    go_enter Tryd.func41, Tryd.ntmps41
    go_wp2_with fail
    refine (HW.out _ _ _ _ HD1.out _).mono ?_
    rintro e W1 ⟨rfl, rfl⟩
    go_wp2_with fail
    refine (HW.out _ _ _ _ HD2.out _).mono ?_
    rintro e W1 ⟨rfl, rfl⟩
    go_wp2
    go_ret
    exact ⟨ret_b HT.out, HB0.out _⟩
  have HD2 := hide (decide_eq_true h2).symm
  by_cases h3 : 0 ≤ seq ∧ seq ≤ 4611686018427387903
  case neg =>
    have HT : Hid (false = B) := hide (by rw [HB.out, decide_eq_false fun h => h3 (HP.out.1 h).2.2.1])
    have HD3 := hide (decide_eq_false h3).symm
    clear HB HP h1 h2 h3 HF
    go_enter Tryd.func41, Tryd.ntmps41
    go_wp2_with fail
    refine (HW.out _ _ _ _ HD1.out _).mono ?_
    rintro e W1 ⟨rfl, rfl⟩
    go_wp2_with fail
    refine (HW.out _ _ _ _ HD2.out _).mono ?_
    rintro e W1 ⟨rfl, rfl⟩
    go_wp2_with fail
    refine (HW.out _ _ _ _ HD3.out _).mono ?_
    rintro e W1 ⟨rfl, rfl⟩
    go_wp2
    go_ret
    exact ⟨ret_b HT.out, HB0.out _⟩
  have HD3 := hide (decide_eq_true h3).symm
  by_cases h4 : FitsO ⟨code, a, b⟩
  case neg =>
    have HT : Hid (false = B) := hide (by rw [HB.out, decide_eq_false fun h => h4 (HP.out.1 h).2.2.2.1])
    rw [decide_eq_false h4] at HF
    clear HB HP h1 h2 h3 h4
    go_enter Tryd.func41, Tryd.ntmps41
    go_wp2_with fail
    refine (HW.out _ _ _ _ HD1.out _).mono ?_
    rintro e W1 ⟨rfl, rfl⟩
    go_wp2_with fail
    refine (HW.out _ _ _ _ HD2.out _).mono ?_
    rintro e W1 ⟨rfl, rfl⟩
    go_wp2_with fail
    refine (HW.out _ _ _ _ HD3.out _).mono ?_
    rintro e W1 ⟨rfl, rfl⟩
    go_wp2_with fail
    refine (HF.out _).mono ?_
    rintro e W2 ⟨rfl, hb2⟩
    have HB2 := hide ((HB0.out _).trans (hb2.mono (HB0.out _).size))
    clear hb2
    go_wp2
    go_ret
    exact ⟨ret_b HT.out, HB2.out⟩
  rw [decide_eq_true h4] at HF
  by_cases h5 : -1125899906842624 ≤ resp ∧ resp ≤ 1125899906842624
  case neg =>
    have HT : Hid (false = B) := hide (by rw [HB.out, decide_eq_false fun h => h5 (HP.out.1 h).2.2.2.2])
    have HD5 := hide (decide_eq_false h5).symm
    clear HB HP h1 h2 h3 h4 h5
    go_enter Tryd.func41, Tryd.ntmps41
    go_wp2_with fail
    refine (HW.out _ _ _ _ HD1.out _).mono ?_
    rintro e W1 ⟨rfl, rfl⟩
    go_wp2_with fail
    refine (HW.out _ _ _ _ HD2.out _).mono ?_
    rintro e W1 ⟨rfl, rfl⟩
    go_wp2_with fail
    refine (HW.out _ _ _ _ HD3.out _).mono ?_
    rintro e W1 ⟨rfl, rfl⟩
    go_wp2_with fail
    refine (HF.out _).mono ?_
    rintro e W2 ⟨rfl, hb2⟩
    have hx2 := (X1.out _).below hb2 (Nat.le_refl _)
    have HB2 := hide ((HB0.out _).trans (hb2.mono (HB0.out _).size))
    obtain ⟨q6, -⟩ := hx2.cell 6
    clear hb2 hx2
    go_wp2_with fail
    refine (HW.out _ _ _ _ HD5.out _).mono ?_
    rintro e W3 ⟨rfl, rfl⟩
    go_wp2
    go_ret
    exact ⟨ret_b HT.out, HB2.out⟩
  have HT : Hid (true = B) := hide (by rw [HB.out, decide_eq_true (HP.out.2 ⟨h1, h2, h3, h4, h5⟩)])
  have HD5 := hide (decide_eq_true h5).symm
  clear HB HP h1 h2 h3 h4 h5
  go_enter Tryd.func41, Tryd.ntmps41
  go_wp2_with fail
  refine (HW.out _ _ _ _ HD1.out _).mono ?_
  rintro e W1 ⟨rfl, rfl⟩
  go_wp2_with fail
  refine (HW.out _ _ _ _ HD2.out _).mono ?_
  rintro e W1 ⟨rfl, rfl⟩
  go_wp2_with fail
  refine (HW.out _ _ _ _ HD3.out _).mono ?_
  rintro e W1 ⟨rfl, rfl⟩
  go_wp2_with fail
  refine (HF.out _).mono ?_
  rintro e W2 ⟨rfl, hb2⟩
  have hx2 := (X1.out _).below hb2 (Nat.le_refl _)
  have HB2 := hide ((HB0.out _).trans (hb2.mono (HB0.out _).size))
  obtain ⟨q6, -⟩ := hx2.cell 6
  clear hb2 hx2
  go_wp2_with fail
  refine (HW.out _ _ _ _ HD5.out _).mono ?_
  rintro e W3 ⟨rfl, rfl⟩
  go_wp2
  go_ret
  exact ⟨ret_b HT.out, HB2.out⟩

end Go.Proofs.YtddhcohjmgdajaaDoor

