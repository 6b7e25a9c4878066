/- A map from names to files, as a function from names to blocks. -/
import Derived.Test.YtfhgjnfichgdiaaIntBase
import Derived.Test.YtfhgjnfichgdiaaFilesShelf
import Derived.Maps.OwnOps
import Derived.Maps.OwnSet
import Derived.Maps.Views
import Derived.Maps.RangeWalk
import Derived.Maps.Ext
namespace Go.Proofs.Ytfhgjnfichgdiaa
open Go.RowKit Go.Maps Go.Shelf
open Go.ChangeMaps Go.MapKept
open Go.WideElems (Fit rd rg pl rd_val elemAt)

theorem dirKeys : Keyed Try.prog 3 := int_keyed Try.underlying3

theorem dirZero (w : World) : (zeroValue 67).run Try.prog w = .ok (.pointer none) w := by kernel_rfl

theorem wf64p {n : Int} (h : I64 n) : (Lit.int .i64 n).wf = true := WalkArith.wf_i64 (by obtain ⟨h0, h1⟩ := h; omega)

/-- How a file's pointer reads: the number of its block. -/
def ptrElem (v : Value) : Option (DataW Unit × List MemPlace) :=
  match v with
  | .pointer (some ⟨b, 0, none⟩) => some (.lit (.int .i64 (b : Int)), [])
  | _ => none

theorem ptrElem_mk (b : Nat) : ptrElem (.pointer (some ⟨b, 0, none⟩)) = some (.lit (.int .i64 (b : Int)), []) := rfl

theorem ptrElem_inv {v : Value} {z : DataW Unit × List MemPlace} (h : ptrElem v = some z) : ∃ b : Nat, v = .pointer (some ⟨b, 0, none⟩) ∧ z = (.lit (.int .i64 (b : Int)), []) := by
  unfold ptrElem at h
  split at h
  · cases h
    exact ⟨_, rfl, rfl⟩
  · cases h

/-- What a name's file reads as; z: it has none. -/
def litO (z : DataW Unit) : Option Nat → DataW Unit
  | some x => .lit (.int .i64 (x : Int))
  | none => z

/-- A reading, as a function. -/
def ReadsM (D : DataW Unit) (f : Int → Option Nat) : Prop :=
  ∀ p, I64 p → ∀ z, D.atKey (.int .i64 p) z = litO z (f p)

/-- Block b is a map of at most n names; f tells which block each has. -/
def MapP (w : World) (b n : Nat) (f : Int → Option Nat) : Prop :=
  ∃ D : DataW Unit, w.ownsMap Try.prog 3 ptrElem b n D ∧ ReadsM D f

/-- A file's pointer, or none. -/
def ptrO : Option Nat → Value
  | some x => .pointer (some ⟨x, 0, none⟩)
  | none => .pointer none

theorem ReadsM.has {D : DataW Unit} {f : Int → Option Nat} (h : ReadsM D f) {p : Int} (hp : I64 p) : Maps.has D (.int .i64 p) = (f p).isSome := by
  cases e : f p with
  | none =>
    refine has_false_of_atKey fun z => ?_
    rw [h p hp z, e]
    rfl
  | some x =>
    refine has_true_of_atKey (y := .lit (.int .i64 (x : Int))) fun z => ?_
    rw [h p hp z, e]
    rfl

theorem MapP.made (w : World) : MapP (w.alloc (.map #[] 0)) w.heap.size 0 (fun _ => none) :=
  ⟨.map [], World.ownsMap_made _ _ _ _, fun _ _ _ => rfl⟩

theorem MapP.lt {w : World} {b n : Nat} {f : Int → Option Nat} (h : MapP w b n f) : b < w.heap.size := by
  obtain ⟨D, h1, _⟩ := h
  exact h1.lt

theorem MapP.mono {w : World} {b n n' : Nat} {f : Int → Option Nat} (h : MapP w b n f) (hn : n ≤ n') : MapP w b n' f := by
  obtain ⟨D, h1, h2⟩ := h
  exact ⟨D, h1.mono hn, h2⟩

theorem MapP.keep {w w' : World} {b n : Nat} {f : Int → Option Nat} (h : MapP w b n f) (hk : w'.heap[b]? = w.heap[b]?) : MapP w' b n f := by
  obtain ⟨D, ⟨es, clock, hb, r⟩, h2⟩ := h
  exact ⟨D, ⟨es, clock, hk.trans hb, r⟩, h2⟩

theorem MapP.fun {w : World} {b n : Nat} {f g : Int → Option Nat} (h : MapP w b n f) (e : ∀ p, I64 p → f p = g p) : MapP w b n g := by
  obtain ⟨D, h1, h2⟩ := h
  exact ⟨D, h1, fun p hp z => by rw [h2 p hp z, e p hp]⟩

/-- A map is no row. -/
theorem MapP.apart {w : World} {b n : Nat} {f : Int → Option Nat} (h : MapP w b n f) {cs : Array Value} {t : TypeId} {z : Nat × Nat} {g : Nat} (hg : w.heap[g]? = some (.cells cs t z)) : g ≠ b := by
  obtain ⟨D, ⟨es, clock, hb, _⟩, _⟩ := h
  intro e
  rw [e, hb] at hg
  cases hg

theorem lit_ne {x : Nat} (h : ∀ z : DataW Unit, DataW.lit (.int .i64 (x : Int)) = z) : False := by
  have := h (.map [])
  cases this

theorem litO_inj {x y : Nat} (h : DataW.lit (H := Unit) (.int .i64 (x : Int)) = .lit (.int .i64 (y : Int))) : x = y := by
  simp only [DataW.lit.injEq, Lit.int.injEq, true_and] at h
  omega

set_option maxRecDepth 100000 in
theorem MapP.lookC {w : World} {b n : Nat} {f : Int → Option Nat} (h : MapP w b n f) {p : Int} (hp : I64 p) (c : Bool) : (Instr.lookup 51 (.map (some b)) (.int .i64 p) c).run Try.prog w = .ok (if c then .tuple #[ptrO (f p), .bool (f p).isSome] else ptrO (f p)) w := by
  obtain ⟨D, ⟨es, clock, hb, F, _, rfl⟩, h2⟩ := h
  rcases Maps.fit_look c dirKeys Try.underlying51 (dirZero w) hb F (keyOf_int_mk Try.underlying3 (wf64p hp)) with ⟨hrun, _, hat⟩ | ⟨e0, y, _, _, hrun, hRv, hat, _⟩
  · have e : f p = none := by
      cases e : f p with
      | none => rfl
      | some x =>
        refine (lit_ne (x := x) fun z => ?_).elim
        rw [← hat z, h2 p hp z, e]
        rfl
    rw [hrun, e]
    rfl
  · obtain ⟨x, hv, rfl⟩ := ptrElem_inv hRv
    have e : f p = some x := by
      cases e : f p with
      | none =>
        refine (lit_ne (x := x) fun z => ?_).elim
        have h3 := hat z
        rw [h2 p hp z, e] at h3
        exact h3.symm
      | some x' =>
        have h3 := hat (.map [])
        rw [h2 p hp, e] at h3
        rw [litO_inj h3]
    rw [hrun, e, hv]
    rfl

theorem MapP.look {w : World} {b n : Nat} {f : Int → Option Nat} (h : MapP w b n f) {p : Int} (hp : I64 p) : (Instr.lookup 51 (.map (some b)) (.int .i64 p) true).run Try.prog w = .ok (.tuple #[ptrO (f p), .bool (f p).isSome]) w := h.lookC hp true

theorem MapP.look1 {w : World} {b n : Nat} {f : Int → Option Nat} (h : MapP w b n f) {p : Int} (hp : I64 p) : (Instr.lookup 51 (.map (some b)) (.int .i64 p) false).run Try.prog w = .ok (ptrO (f p)) w := h.lookC hp false

theorem MapP.put {w : World} {b n : Nat} {f : Int → Option Nat} (h : MapP w b n f) {p : Int} (x : Nat) (hp : I64 p) (hn : n ≤ 10000000) :
    ∃ w', (Instr.mapUpdate 51 (.map (some b)) (.int .i64 p) (.pointer (some ⟨x, 0, none⟩))).run Try.prog w = .ok () w' ∧ MapP w' b (n + 1) (fun m => if m = p then some x else f m) ∧ w.grownBy w' (some b) := by
  obtain ⟨D, h1, h2⟩ := h
  have hm : IsMap D := by obtain ⟨es, clock, hb, F, hs, hD⟩ := h1; exact ⟨_, hD⟩
  obtain ⟨w', hrun, ho, hg⟩ := h1.update dirKeys Try.underlying51 (by unfold maxLen; omega) (keyOf_int_mk Try.underlying3 (wf64p hp)) (ptrElem_mk x)
  refine ⟨w', hrun, ⟨_, ho, fun q hq z => ?_⟩, hg⟩
  show _ = litO z (if q = p then some x else f q)
  by_cases e : q = p
  · rw [if_pos e, e, atKey_put_same hm (by first | exact trivial | simp [WideAt.IsKeyLit])]
    rfl
  · rw [if_neg e, atKey_put_other (by intro h; injection h with _ h; exact e h), h2 q hq z]

theorem MapP.del {w : World} {b n : Nat} {f : Int → Option Nat} (h : MapP w b n f) {p : Int} (hp : I64 p) (ty : TypeId) :
    ∃ w', (Builtin.delete_ #[51, 3] ty #[.map (some b), .int .i64 p]).run Try.prog w = .ok (.tuple #[]) w' ∧ MapP w' b n (fun m => if m = p then none else f m) ∧ w.grownBy w' (some b) := by
  obtain ⟨D, ⟨es, clock, hb, F, hs, rfl⟩, h2⟩ := h
  obtain ⟨es', hrun, F', hs', hd, _⟩ := Maps.fit_drop (ty := ty) dirKeys Try.underlying51 hb F (keyOf_int_mk Try.underlying3 (wf64p hp))
  refine ⟨_, hrun, ⟨_, ⟨es', clock, heap_setBlock_same hb _, F', Nat.le_trans hs' hs, rfl⟩, fun q hq z => ?_⟩, ⟨rfl, rfl, rfl, by simp [setBlock], fun i _ hi => heap_setBlock_other hb _ (fun e => hi (by rw [e]))⟩⟩
  rw [hd]
  show ((DataW.map ((es.toList.map (rg Try.prog 3 ptrElem)).foldr DataW.insert [])).del (.int .i64 p)).atKey (.int .i64 q) z = _
  show _ = litO z (if q = p then none else f q)
  by_cases e : q = p
  · rw [if_pos e, e, atKey_del_same]
    rfl
  · rw [if_neg e, atKey_del_other (by intro h; injection h with _ h; exact e h), h2 q hq z]

theorem MapP.clear {w : World} {b n : Nat} {f : Int → Option Nat} (h : MapP w b n f) (ty : TypeId) :
    ∃ w', (Builtin.clear_ #[51] ty #[.map (some b)]).run Try.prog w = .ok (.tuple #[]) w' ∧ MapP w' b 0 (fun _ => none) ∧ w.grownBy w' (some b) := by
  obtain ⟨D, ⟨es, clock, hb, F, hs, rfl⟩, h2⟩ := h
  refine ⟨setBlock w b (.map #[] clock), ?_, ⟨.map [], ⟨#[], clock, heap_setBlock_same hb _, ⟨by simp, stamped_empty clock, by simp⟩, Nat.le_refl _, rfl⟩, fun _ _ _ => rfl⟩, ⟨rfl, rfl, rfl, by simp [setBlock], fun i _ hi => heap_setBlock_other hb _ (fun e => hi (by rw [e]))⟩⟩
  simp [Builtin.clear_, run_underlying Try.underlying51, MapKept.run_getObj_map hb, MapKept.run_setObj_map _ hb, Result.andThen, setBlock]

theorem mergeD_empty {D : DataW Unit} (c : Maps.CanonK (Maps.KeysOf Try.prog 3) D) : Lib.mergeD (.map []) D = D := by
  refine (merged_eq dirKeys.one (left := fun _ => false) ⟨fun k => ?_, fun k z => ?_⟩ (fun _ => rfl) (c.canon dirKeys.one) ⟨[], rfl, List.Pairwise.nil, fun p hp => by cases hp⟩ c).symm
  · show Maps.has D k = (false || (Maps.has D k && true))
    cases Maps.has D k <;> rfl
  · cases e : Maps.has D k with
    | true => rfl
    | false =>
      rw [atKey_of_not_has e]
      rfl

set_option maxRecDepth 100000 in
theorem cloneM_any {w : World} {b n : Nat} {f : Int → Option Nat} (h : MapP w b n f) :
    Calls Try.prog 37 #[.map (some b)] w fun e w' => e = .returned (.map (some w.heap.size)) ∧ MapP w' w.heap.size n f ∧ w'.heap.size = w.heap.size + 1 ∧ Below w.heap.size w w' := by
  obtain ⟨D, ⟨es, clock, hb, r⟩, h2⟩ := h
  refine (AnyW.maps_Clone layW b es clock w hb).mono fun e w' ⟨he, hw⟩ => ?_
  subst hw
  exact ⟨he, ⟨D, ⟨es, clock, (MapKept.heap_alloc w _).1, r⟩, h2⟩, by simp, (Below.refl _ w).alloc (Nat.le_refl _) _⟩

set_option maxRecDepth 100000 in
theorem copy_any {w : World} {bd bs n : Nat} {f : Int → Option Nat} (hd : MapP w bd 0 (fun _ => none)) (hs : MapP w bs n f) (hne : bd ≠ bs) (hn : n ≤ 10000000) :
    Calls Try.prog 56 #[.map (some bd), .map (some bs)] w fun e w' => e = .returned (.tuple #[]) ∧ MapP w' bd n f ∧ w.grownBy w' (some bd) := by
  obtain ⟨Dd, h1, h2⟩ := hd
  obtain ⟨Ds, h3, h4⟩ := hs
  have hsz : Maps.size Ds ≤ n := by
    obtain ⟨es, clock, hb, F, hs, rfl⟩ := h3
    rw [size_eq, length_sorted]
    simpa using hs
  have hD : Dd = .map [] := by
    obtain ⟨es, clock, hb, F, hs, rfl⟩ := h1
    have : es = #[] := by simpa using hs
    subst this
    rfl
  subst hD
  refine (AnyX.maps_Copy layX dirKeys ptrElem bd bs 0 n (.map []) Ds w h1 h3 hne (by unfold maxLen; omega)).mono fun e w' ⟨he, ho, _, hg⟩ => ?_
  rw [mergeD_empty (h3.canonK dirKeys)] at ho
  exact ⟨he, ⟨Ds, ho.mono (by omega), h4⟩, hg⟩

end Go.Proofs.Ytfhgjnfichgdiaa
