/- A map from numbers to numbers that a call makes, as a function. -/
import Derived.Test.YtekkmflfhkdkoaaIntBase
import Derived.Maps.OwnOps
import Derived.Maps.Views
namespace Go.Proofs.Ytekkmflfhkdkoaa
open Go.RowKit Go.Maps

theorem mapKeys : Keyed Try.prog 3 := int_keyed Try.underlying3

theorem mapZero (w : World) : (zeroValue 3).run Try.prog w = .ok (.int .i64 0) w := by kernel_rfl

theorem wf64 {n : Int} (h : I64 n) : (Lit.int .i64 n).wf = true := WalkArith.wf_i64 (by obtain ⟨h0, h1⟩ := h; omega)

/-- Block b is a map of at most n entries; f tells what each number has (0: what is not there). -/
def MapI (w : World) (b n : Nat) (f : Int → Int) : Prop :=
  ∃ D : DataW Unit, w.ownsMap Try.prog 3 (plainElem Try.prog 3) b n D ∧ IsMap D ∧ ∀ p, I64 p → D.atKey (.int .i64 p) (.lit (.int .i64 0)) = .lit (.int .i64 (f p))

theorem MapI.made (w : World) : MapI (w.alloc (.map #[] 0)) w.heap.size 0 (fun _ => 0) :=
  ⟨.map [], World.ownsMap_made _ _ _ _, isMap_empty, fun _ _ => rfl⟩

theorem MapI.lt {w : World} {b n : Nat} {f : Int → Int} (h : MapI w b n f) : b < w.heap.size := by
  obtain ⟨D, h1, _⟩ := h
  exact h1.lt

theorem MapI.keep {w w' : World} {b n : Nat} {f : Int → Int} (h : MapI w b n f) (hk : w'.heap[b]? = w.heap[b]?) : MapI w' b n f := by
  obtain ⟨D, ⟨es, clock, hb, r⟩, h2⟩ := h
  exact ⟨D, ⟨es, clock, hk.trans hb, r⟩, h2⟩

theorem MapI.mono {w : World} {b n n' : Nat} {f : Int → Int} (h : MapI w b n f) (hn : n ≤ n') : MapI w b n' f := by
  obtain ⟨D, h1, h2⟩ := h
  exact ⟨D, h1.mono hn, h2⟩

theorem MapI.below {w w' : World} {b n B : Nat} {f : Int → Int} (h : MapI w b n f) (hb : Below B w w') (hB : w.heap.size ≤ B) : MapI w' b n f :=
  h.keep (hb.block b (by have := h.lt; omega))

theorem MapI.fun {w : World} {b n : Nat} {f g : Int → Int} (h : MapI w b n f) (e : ∀ p, f p = g p) : MapI w b n g := by
  have : f = g := funext e
  rw [← this]
  exact h

/-- A map is no row. -/
theorem MapI.apart {w : World} {b n : Nat} {f : Int → Int} (h : MapI w b n f) {cs : Array Value} {t : TypeId} {z : Nat × Nat} {g : Nat} (hg : w.heap[g]? = some (.cells cs t z)) : g ≠ b := by
  obtain ⟨D, ⟨es, clock, hb, _⟩, _⟩ := h
  intro e
  rw [e, hb] at hg
  cases hg

theorem MapI.look {w : World} {b n : Nat} {f : Int → Int} (h : MapI w b n f) {p : Int} (hp : I64 p) : (Instr.lookup 43 (.map (some b)) (.int .i64 p) false).run Try.prog w = .ok (.int .i64 (f p)) w := by
  obtain ⟨D, h1, _, h3⟩ := h
  obtain ⟨c, hrun, hat, _⟩ := h1.lookup_int mapKeys Try.underlying43 Try.underlying3 (mapZero _) (keyOf_int_mk Try.underlying3 (wf64 hp))
  rw [h3 p hp] at hat
  have e : f p = c := by simpa using hat
  rw [hrun, e]

/-- What is stored. -/
def putF (f : Int → Int) (p x : Int) : Int → Int := fun q => if p = q then x else f q

theorem MapI.put {w : World} {b n : Nat} {f : Int → Int} (h : MapI w b n f) {p x : Int} (hp : I64 p) (hx : I64 x) (hn : n ≤ 1000000000000) :
    ∃ w', (Instr.mapUpdate 43 (.map (some b)) (.int .i64 p) (.int .i64 x)).run Try.prog w = .ok () w' ∧ MapI w' b (n + 1) (putF f p x) ∧ w.grownBy w' (some b) := by
  obtain ⟨D, h1, h2, h3⟩ := h
  obtain ⟨w', hrun, ho, hg⟩ := h1.update mapKeys Try.underlying43 (by unfold maxLen; omega) (keyOf_int_mk Try.underlying3 (wf64 hp)) (plainElem_int Try.underlying3 (wf64 hx))
  refine ⟨w', hrun, ⟨_, ho, h2.put _ _, fun q hq => ?_⟩, hg⟩
  unfold putF
  by_cases e : p = q
  · rw [if_pos e, ← e, atKey_put_same h2 (by first | exact trivial | simp [WideAt.IsKeyLit])]
  · rw [if_neg e, atKey_put_other (by intro h; injection h with _ h; exact e h.symm), h3 q hq]

end Go.Proofs.Ytekkmflfhkdkoaa
