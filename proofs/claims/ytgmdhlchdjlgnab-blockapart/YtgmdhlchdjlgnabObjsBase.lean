/- Objects: states, operations and numbers as values in memory; what a step answers. -/
import Derived.Test.YtgmdhlchdjlgnabPack1
import Derived.Deep.QuietTactic
import Derived.BigQuiet
import Derived.Deep.DeepCutAuto
import Derived.Laws.ResultCell
import Derived.Laws.NewDeep
import Derived.Deep.RegionHeld
import Derived.Maps.AppendAt
namespace Go.Proofs.Ytgmdhlchdjlgnab
open Go.RowKit

theorem ret_i {k : IntKind} {a b : Int} (h : a = b) : Ending.returned (.int k a) = .returned (.int k b) := by rw [h]

theorem ret_b {a b : Bool} (h : a = b) : Ending.returned (.bool a) = .returned (.bool b) := by rw [h]

theorem withF_at (key n : Int) (l : List Int) (k : Nat) (d : Bool) (h : k + 1 < l.length) :
    withF key n d (l.drop k) = (if d = false ∧ key ≤ l.getD k 0 then [key, n] else []) ++ ((if l.getD k 0 ≠ key then [l.getD k 0, l.getD (k + 1) 0] else []) ++ withF key n (d || decide (key ≤ l.getD k 0)) (l.drop (k + 2))) := by
  rw [drop_pair l k h]
  exact rfl

/-- A value that is a state. -/
def StV (w : World) (v : Value) (s : St) : Prop := ∃ vl, v = .agg #[.int .i64 s.kind, vl, .bool s.shut, .int .i64 s.eng] ∧ RdI w vl s.L ∧ I64 s.kind ∧ I64 s.eng

/-- An operation as a value. -/
def opV (o : Opn) : Value := .agg #[.int .i64 o.code, .int .i64 o.a, .int .i64 o.b]

def OpOk (o : Opn) : Prop := I64 o.code ∧ I64 o.a ∧ I64 o.b

theorem StV.below {w w' : World} {v : Value} {s : St} (h : StV w v s) {B : Nat} (hb : Below B w w') (hB : w.heap.size ≤ B) : StV w' v s := by
  obtain ⟨vl, h1, h2, h3, h4⟩ := h
  exact ⟨vl, h1, h2.below hb hB, h3, h4⟩

theorem may_bad1 {s : St} (h : s.eng < 0 ∨ 2 < s.eng ∨ (s.shut = false ∧ s.eng ≠ 0) ∨ s.kind < 0 ∨ 6 ≤ s.kind) : ¬ MayS s := by
  rintro ⟨h1, h2, h3, h4, h5, _⟩
  rcases h with h | h | ⟨h, h'⟩ | h | h
  · omega
  · omega
  · exact h' (h3 h)
  · omega
  · omega

theorem may_nums {s : St} (h1 : 0 ≤ s.eng) (h2 : s.eng ≤ 2) (h3 : s.shut = false → s.eng = 0) (h4 : 0 ≤ s.kind) (h5 : s.kind < 6) : MayS s ↔ NumsOk s.kind s.L :=
  ⟨fun h => h.2.2.2.2.2, fun h => ⟨h1, h2, h3, h4, h5, h⟩⟩

theorem getD_ext_int (A B : List Int) (hl : A.length = B.length) (h : ∀ j, j < A.length → A.getD j 0 = B.getD j 0) : A = B := by
  apply List.ext_getElem hl
  intro j h1 h2
  have := h j h1
  simpa [List.getD, h1, h2] using this

/-- Two states are the same. -/
def SameS (a b : St) : Prop := a.kind = b.kind ∧ a.shut = b.shut ∧ a.eng = b.eng ∧ a.L = b.L

instance (a b : St) : Decidable (SameS a b) := by unfold SameS; infer_instance

/-- What a step answers. -/
def Stepped (w : World) (vl : Value) (L : List Int) (r : St × Int) (e : Ending) (w' : World) : Prop :=
  ∃ vl', e = .returned (.tuple #[.agg #[.int .i64 r.1.kind, vl', .bool r.1.shut, .int .i64 r.1.eng], .int .i64 r.2]) ∧ RdI w' vl' r.1.L ∧ I64 r.1.kind ∧ I64 r.1.eng ∧ ((vl' = vl ∧ r.1.L = L) ∨ ∀ b, vl'.ownBlock = some b → w.heap.size ≤ b) ∧ Below w.heap.size w w'

/-- The numbers of a state's value. -/
def lval : Value → Value
  | .agg ⟨[_, x, _, _]⟩ => x
  | v => v

theorem lval_agg (a x c d : Value) : lval (.agg #[a, x, c, d]) = x := rfl

theorem ownBlock_is {g off n c b : Nat} (h : (Value.slice (some ⟨g, off, none⟩) n c).ownBlock = some b) : b = g := by
  injection h with h
  exact h.symm

/-- A state with numbers that are new. -/
theorem Stepped.fresh {w w' : World} {vl vl' : Value} {L L' : List Int} {kind g : Int} {shut : Bool} (hr : RdI w' vl' L') (hki : I64 kind) (hti : I64 g) (n : Int) (hf : ∀ b, vl'.ownBlock = some b → w.heap.size ≤ b) (hb : Below w.heap.size w w') :
    Stepped w vl L (⟨kind, L', shut, g⟩, n) (.returned (.tuple #[.agg #[.int .i64 kind, vl', .bool shut, .int .i64 g], .int .i64 n])) w' :=
  ⟨_, rfl, hr, hki, hti, .inr hf, hb⟩

/-- A state with the numbers that came in. -/
theorem Stepped.same {w w' : World} {vl : Value} {L : List Int} {kind g : Int} {shut : Bool} (hr : RdI w vl L) (hki : I64 kind) (hti : I64 g) (n : Int) (hb : Below w.heap.size w w') :
    Stepped w vl L (⟨kind, L, shut, g⟩, n) (.returned (.tuple #[.agg #[.int .i64 kind, vl, .bool shut, .int .i64 g], .int .i64 n])) w' :=
  ⟨_, rfl, hr.below hb (Nat.le_refl _), hki, hti, .inl ⟨rfl, rfl⟩, hb⟩

theorem cut_i64 (n : Int) : I64 (cutZ n) := by
  have := cutZ_in n
  unfold I64
  omega

theorem RdI.one (w : World) (x : Int) (h : I64 x) : RdI (w.alloc (.cells #[.int .i64 x] 3)) (.slice (some ⟨w.heap.size, 0, none⟩) 1 1) [x] := by
  refine ⟨some ⟨w.heap.size, 0, none⟩, 1, rfl, Nat.le_refl _, by decide, (fun e => by cases e), ?_, .inr ⟨w.heap.size, 0, rfl, fun j hj => ?_⟩⟩
  · intro n hn
    simp at hn
    rw [hn]
    exact h
  · have e : j = 0 := by simpa using hj
    subst e
    rw [Nat.zero_add, cell_of_row _ w.heap.size 0 #[.int .i64 x] 3 (0, 0) (heap_alloc_new w _)]
    rfl

theorem size3 (w : World) (x y z : Obj) : (((w.alloc x).alloc y).alloc z).heap.size = w.heap.size + 1 + 1 + 1 := by simp

theorem RdI.one3 (w : World) (x y z : Obj) (n : Int) (h : I64 n) : RdI ((((w.alloc x).alloc y).alloc z).alloc (.cells #[.int .i64 n] 3)) (.slice (some ⟨w.heap.size + 1 + 1 + 1, 0, none⟩) 1 1) [n] := by
  have h := RdI.one (((w.alloc x).alloc y).alloc z) n h
  rwa [size3] at h

theorem OwnI.shape {w : World} {B : Nat} {v : Value} {l : List Int} (h : OwnI w B v l) : ∃ ao cap, v = .slice ao l.length cap := by
  rcases h.2 with ⟨hv, hn⟩ | ⟨g, cap, cur, hv, _⟩
  · exact ⟨none, 0, by rw [hv, hn]⟩
  · exact ⟨_, _, hv⟩

/-- One field of the state, and the four of the answer, are written. -/
def wrote5 (w : World) (B R : Nat) (x0 x1 x2 x3 x4 : Value) : World :=
  ((((w.setCell ⟨B, 1, none⟩ x0).setCell ⟨R, 0, none⟩ x1).setCell ⟨R, 1, none⟩ x2).setCell ⟨R, 2, none⟩ x3).setCell ⟨R, 3, none⟩ x4

theorem OwnI.five {w : World} {C : Nat} {v : Value} {l : List Int} (h : OwnI w C v l) (B R : Nat) (hB : B < C) (hR : R < C) (x0 x1 x2 x3 x4 : Value) : OwnI (wrote5 w B R x0 x1 x2 x3 x4) C v l :=
  ownsRow_setCell_below (ownsRow_setCell_below (ownsRow_setCell_below (ownsRow_setCell_below (ownsRow_setCell_below h hB _) hR _) hR _) hR _) hR _

theorem belowFive {C : Nat} {w0 w : World} (h : Below C w0 w) (B R : Nat) (hB : C ≤ B) (hR : C ≤ R) (x0 x1 x2 x3 x4 : Value) : Below C w0 (wrote5 w B R x0 x1 x2 x3 x4) :=
  ((((h.setCell hB _).setCell hR _).setCell hR _).setCell hR _).setCell hR _

theorem size_int (w : World) : (sizeOf 3).run Try.prog w = .ok 1 w := by
  obtain ⟨i0, hi, _, hz1, _⟩ := info_parts info_i64
  simp [sizeOf, typeInfo, hi, hz1]

theorem RdI.mid {w : World} {ao : Option Addr} {n cap : Nat} {l : List Int} (h : RdI w (.slice ao n cap) l) (i j m : Nat) (hij : i ≤ j) (hj : j ≤ l.length) (hm : j ≤ m) (hmc : m ≤ cap) : RdI w (sliced ao i j m 1) ((l.drop i).take (j - i)) := by
  obtain ⟨ao', cap', hv, h1, h2, h3, hi, h4⟩ := h
  simp only [Value.slice.injEq] at hv
  obtain ⟨rfl, rfl, rfl⟩ := hv
  have hlen : ((l.drop i).take (j - i)).length = j - i := by simp; omega
  have hi' : ∀ n ∈ (l.drop i).take (j - i), I64 n := fun n hn => hi n (List.mem_of_mem_drop (List.mem_of_mem_take hn))
  unfold sliced
  by_cases hmi : m = i
  · rw [if_pos hmi]
    have e : j - i = 0 := by omega
    refine ⟨ao, m - i, by rw [hlen], by omega, by omega, fun hn => by have := h3 hn; omega, hi', .inl ?_⟩
    rw [e]
    simp
  · rw [if_neg hmi]
    refine ⟨ao.map (·.add (i * 1)), m - i, by rw [hlen], by omega, by omega, fun hn => ?_, hi', ?_⟩
    · have hn' : ao = none := by simpa using hn
      have := h3 hn'
      omega
    · rcases h4 with h4 | ⟨b, off, h5, h6⟩
      · exact .inl (by rw [h4]; simp)
      · refine .inr ⟨b, off + i, ?_, fun k hk => ?_⟩
        · rw [h5, Nat.mul_one, Option.map_some, Addr.add_lit]
        · rw [hlen] at hk
          rw [Nat.add_assoc, h6 (i + k) (by omega)]
          simp [List.getD, hk]

theorem sliced_block (ao : Option Addr) (i j m s n c : Nat) : (sliced ao i j m s).ownBlock = (Value.slice ao n c).ownBlock := by
  unfold sliced
  cases ao with
  | none => split <;> rfl
  | some a => split <;> simp [Value.ownBlock, Go.ChangeShapes.block_add]

/-- What is read stays while cells in other blocks are written. -/
theorem RdI.five {w : World} {v : Value} {l : List Int} (h : RdI w v l) (B R : Nat) (hw : ∀ b, v.ownBlock = some b → b ≠ B ∧ b ≠ R) (x0 x1 x2 x3 x4 : Value) : RdI (wrote5 w B R x0 x1 x2 x3 x4) v l := by
  obtain ⟨ao, cap, h1, h2, h3, hn, hi, h4⟩ := h
  refine ⟨ao, cap, h1, h2, h3, hn, hi, ?_⟩
  rcases h4 with h4 | ⟨b, off, h5, h6⟩
  · exact .inl h4
  · refine .inr ⟨b, off, h5, fun j hj => ?_⟩
    obtain ⟨e1, e2⟩ := hw b (by rw [h1, h5]; rfl)
    rw [← h6 j hj]
    have hb : (wrote5 w B R x0 x1 x2 x3 x4).heap[b]? = w.heap[b]? := by
      unfold wrote5
      rw [Below.heap_setCell _ _ _ _ e2, Below.heap_setCell _ _ _ _ e2, Below.heap_setCell _ _ _ _ e2, Below.heap_setCell _ _ _ _ e2, Below.heap_setCell _ _ _ _ e1]
    exact World.cell?_of_block (a := ⟨b, off + j, none⟩) hb

/-- What came in, as it is answered: the same state, behind three boxes. -/
theorem Stepped.kept {w : World} {ao : Option Addr} {cap : Nat} {kind g : Int} {shut : Bool} {l : List Int} (hr : RdI w (.slice ao l.length cap) l) (hki : I64 kind) (hti : I64 g) (n : Int) {w' : World} (hb : Below w.heap.size w w') :
    Stepped w (.slice ao l.length cap) l (⟨kind, l, shut, g⟩, n) (.returned (.tuple #[.agg #[.int .i64 kind, .slice ao l.length cap, .bool shut, .int .i64 g], .int .i64 n])) w' :=
  Stepped.same hr hki hti n hb

/-- The four fields of the answer are written. -/
theorem belowFour {C : Nat} {w0 w : World} (h : Below C w0 w) (R : Nat) (hR : C ≤ R) (x1 x2 x3 x4 : Value) : Below C w0 ((((w.setCell ⟨R, 0, none⟩ x1).setCell ⟨R, 1, none⟩ x2).setCell ⟨R, 2, none⟩ x3).setCell ⟨R, 3, none⟩ x4) :=
  (((h.setCell hR _).setCell hR _).setCell hR _).setCell hR _

theorem withF_mem (key n : Int) : ∀ (l : List Int) (d : Bool) (x : Int), x ∈ withF key n d l → x ∈ l ∨ x = key ∨ x = n
  | [], d, x, h => by
    unfold withF at h
    split at h
    · simp at h
    · simpa using h
  | [_], d, x, h => by
    unfold withF at h
    split at h
    · simp at h
    · right; simpa using h
  | a :: b :: r, d, x, h => by
    have ih := withF_mem key n r (d || decide (key ≤ a)) x
    unfold withF at h
    rcases List.mem_append.1 h with h | h
    · split at h
      · right; simpa using h
      · simp at h
    · rcases List.mem_append.1 h with h | h
      · split at h
        · left
          simp at h ⊢
          rcases h with h | h
          · exact .inl h
          · exact .inr (.inl h)
        · simp at h
      · rcases ih h with h | h
        · left; simp [h]
        · exact .inr h

theorem withoutF_mem (key : Int) : ∀ (l : List Int) (x : Int), x ∈ withoutF key l → x ∈ l
  | [], x, h => by simp [withoutF] at h
  | [_], x, h => by simp [withoutF] at h
  | a :: b :: r, x, h => by
    have ih := withoutF_mem key r x
    unfold withoutF at h
    rcases List.mem_append.1 h with h | h
    · split at h
      · simp at h ⊢
        rcases h with h | h
        · exact .inl h
        · exact .inr (.inl h)
      · simp at h
    · simp [ih h]

theorem with_i64 {l : List Int} (h : ∀ n ∈ l, I64 n) {key n : Int} (hk : I64 key) (hn : I64 n) {d : Bool} : ∀ x ∈ withF key n d l, I64 x := fun x hx => by
  rcases withF_mem key n l d x hx with hx | rfl | rfl
  · exact h x hx
  · exact hk
  · exact hn

/-- A state whose numbers are new, as it is answered. -/
theorem Stepped.wrote {w w2 : World} {vl : Value} {l : List Int} {kind g : Int} {shut : Bool} {ao : Option Addr} {cap n : Nat} {L : List Int} (ho : OwnI w2 (w.heap.size + 1 + 1 + 1) (.slice ao n cap) L) (hi : ∀ x ∈ L, I64 x) (hki : I64 kind) (hti : I64 g) (r : Int) (hb : Below w.heap.size w w2) :
    Stepped w vl l (⟨kind, L, shut, g⟩, r) (.returned (.tuple #[.agg #[.int .i64 kind, .slice ao n cap, .bool shut, .int .i64 g], .int .i64 r])) (wrote5 w2 w.heap.size (w.heap.size + 1 + 1) (.slice ao n cap) (.int .i64 kind) (.slice ao n cap) (.bool shut) (.int .i64 g)) :=
  Stepped.fresh ((ho.five w.heap.size (w.heap.size + 1 + 1) (by omega) (by omega) _ _ _ _ _).rd hi) hki hti r (fun b hb => by have := (World.ownsRow.lt ho b hb).1; omega) (belowFive hb w.heap.size (w.heap.size + 1 + 1) (Nat.le_refl _) (by omega) _ _ _ _ _)

theorem i64_small {n : Int} (h0 : -2251799813685248 ≤ n) (h1 : n ≤ 2251799813685248) : I64 n := ⟨by omega, by omega⟩

theorem withF_even (key n : Int) : ∀ (l : List Int) (d : Bool), l.length % 2 = 0 → (withF key n d l).length % 2 = 0
  | [], d, _ => by
    unfold withF
    split <;> simp
  | [_], _, h => by simp at h
  | a :: b :: r, d, h => by
    have ih := withF_even key n r (d || decide (key ≤ a)) (by simp at h; omega)
    unfold withF
    simp only [List.length_append]
    have h1 : (if d = false ∧ key ≤ a then [key, n] else ([] : List Int)).length % 2 = 0 := by split <;> simp
    have h2 : (if a ≠ key then [a, b] else ([] : List Int)).length % 2 = 0 := by split <;> simp
    omega

theorem i64wrap_in (n : Int) (h0 : -2251799813685248 ≤ n) (h1 : n ≤ 2251799813685248) : IntKind.i64.wrap n = n := by
  rw [IntKind.wrap_i64]
  omega

theorem move_lift {w w4 : World} {x y z : Obj} {nq : Nat} {v4 : Value} {m : List Int} (ho : OwnI w4 ((((w.alloc x).alloc y).alloc z).drewN nq).drew.heap.size v4 m) (hb : Below ((((w.alloc x).alloc y).alloc z).drewN nq).drew.heap.size ((((w.alloc x).alloc y).alloc z).drewN nq).drew w4) :
    OwnI w4 (w.heap.size + 1 + 1 + 1) v4 m ∧ Below (w.heap.size + 1 + 1 + 1) (((w.alloc x).alloc y).alloc z) w4 ∧ w.heap.size + 1 + 1 + 1 ≤ w4.heap.size := by
  have e : ((((w.alloc x).alloc y).alloc z).drewN nq).drew.heap.size = w.heap.size + 1 + 1 + 1 := size3 w x y z
  rw [e] at ho hb
  have hs := hb.size
  rw [e] at hs
  exact ⟨ho, ((below_drewN (Below.refl _ _) nq).drew).trans hb, hs⟩

theorem had_none {key : Int} {l : List Int} (h : findF key 0 l = -1) : hadF key l = -1 := by
  unfold hadF
  rw [h, if_neg (by omega)]

theorem had_some {key : Int} {l : List Int} {J : Nat} (h : findF key 0 l = ((J : Nat) : Int)) : hadF key l = l.getD (J + 1) 0 := by
  unfold hadF
  rw [h, if_pos (by omega), Int.toNat_natCast]

theorem has_none {key : Int} {l : List Int} (h : findF key 0 l = -1) : hasF key l = 0 := by
  unfold hasF
  rw [h, if_neg (by omega)]

theorem has_some {key : Int} {l : List Int} {J : Nat} (h : findF key 0 l = ((J : Nat) : Int)) : hasF key l = l.getD (J + 1) 0 := by
  unfold hasF
  rw [h, if_pos (by omega), Int.toNat_natCast]

/-- A key is found at a place, or not. -/
theorem find_cases (key : Int) (l : List Int) : findF key 0 l = -1 ∨ ∃ J : Nat, findF key 0 l = ((J : Nat) : Int) ∧ J + 1 < l.length := by
  rcases findF_get key l 0 with ⟨h, _⟩ | ⟨J, h, hJ, _⟩
  · exact .inl h
  · exact .inr ⟨J, by rw [h]; simp, hJ⟩

/-- What a world has is there in another one, but for two blocks. -/
structure But (R T : Nat) (w w' : World) : Prop where
  os : w'.os = w.os
  tape : w'.tape = w.tape
  output : w'.output = w.output
  size : w.heap.size ≤ w'.heap.size
  block : ∀ k, k < w.heap.size → k ≠ R → k ≠ T → w'.heap[k]? = w.heap[k]?

theorem But.refl (R T : Nat) (w : World) : But R T w w := ⟨rfl, rfl, rfl, Nat.le_refl _, fun _ _ _ _ => rfl⟩

theorem But.set {R T : Nat} {w w' : World} (h : But R T w w') (b i : Nat) (hb : b = R ∨ b = T) (x : Value) : But R T w (w'.setCell ⟨b, i, none⟩ x) := by
  have hb0 := (Below.refl 0 w').setCell (p := ⟨b, i, none⟩) (Nat.zero_le _) x
  refine ⟨hb0.os.trans h.os, hb0.tape.trans h.tape, hb0.output.trans h.output, Nat.le_trans h.size hb0.size, fun k hk h1 h2 => ?_⟩
  rw [Below.heap_setCell _ _ _ _ (by rcases hb with rfl | rfl <;> assumption)]
  exact h.block k hk h1 h2

theorem But.alloc {R T : Nat} {w w' : World} (h : But R T w w') (x : Obj) : But R T w (w'.alloc x) := by
  have hb0 := (Below.refl 0 w').alloc (Nat.zero_le _) x
  refine ⟨hb0.os.trans h.os, hb0.tape.trans h.tape, hb0.output.trans h.output, Nat.le_trans h.size hb0.size, fun k hk h1 h2 => ?_⟩
  rw [Below.heap_alloc _ _ _ (by have := h.size; omega)]
  exact h.block k hk h1 h2

theorem But.drew {R T : Nat} {w w' : World} (h : But R T w w') : But R T w w'.drew := ⟨h.os, h.tape, h.output, h.size, h.block⟩

theorem But.four {R T : Nat} {w w' : World} (h : But R T w w') (b : Nat) (hb : b = R ∨ b = T) (x1 x2 x3 x4 : Value) : But R T w ((((w'.setCell ⟨b, 0, none⟩ x1).setCell ⟨b, 1, none⟩ x2).setCell ⟨b, 2, none⟩ x3).setCell ⟨b, 3, none⟩ x4) :=
  (((h.set b 0 hb x1).set b 1 hb x2).set b 2 hb x3).set b 3 hb x4

theorem RdI.block {w : World} {v : Value} {l : List Int} (h : RdI w v l) : l = [] ∨ (l ≠ [] ∧ ∃ b, v.ownBlock = some b ∧ b < w.heap.size) := by
  obtain ⟨ao, cap, h1, h2, h3, hn, hi, h4⟩ := h
  rcases h4 with h4 | ⟨b, off, h5, h6⟩
  · exact .inl h4
  · by_cases hl : l = []
    · exact .inl hl
    · right
      have h0 : 0 < l.length := List.length_pos_iff.2 hl
      exact ⟨hl, b, by rw [h1, h5]; rfl, World.block_lt_of_cell? w ⟨b, off + 0, none⟩ (h6 0 h0)⟩

theorem RdI.but {w w' : World} {v : Value} {l : List Int} (h : RdI w v l) {R T : Nat} (hb : But R T w w') (hn : l = [] ∨ ∀ b, v.ownBlock = some b → b ≠ R ∧ b ≠ T) : RdI w' v l := by
  obtain ⟨ao, cap, h1, h2, h3, hn0, hi, h4⟩ := h
  refine ⟨ao, cap, h1, h2, h3, hn0, hi, ?_⟩
  rcases h4 with h4 | ⟨b, off, h5, h6⟩
  · exact .inl h4
  · rcases hn with hn | hn
    · exact .inl hn
    · refine .inr ⟨b, off, h5, fun j hj => ?_⟩
      obtain ⟨n1, n2⟩ := hn b (by rw [h1, h5]; rfl)
      have hlt := World.block_lt_of_cell? w ⟨b, off + j, none⟩ (h6 j hj)
      rw [← h6 j hj]
      exact World.cell?_of_block (a := ⟨b, off + j, none⟩) (hb.block b hlt n1 n2)

/-- What a callee answered, handed on by way of a box. -/
theorem Stepped.passed {w W w2 F : World} {vl : Value} {l : List Int} {r : St × Int} {e : Ending} (h : Stepped W vl l r e w2) (hr : RdI w vl l) (hb : Below w.heap.size w W) (R T : Nat) (hR0 : w.heap.size ≤ R) (hR1 : R < W.heap.size) (hT0 : w.heap.size ≤ T) (hT1 : T < W.heap.size ∨ w2.heap.size ≤ T) (hF : But R T w2 F) : Stepped w vl l r e F := by
  obtain ⟨vl', he, hr', hki, hti, hd, hb'⟩ := h
  refine ⟨vl', he, ?_, hki, hti, ?_, ?_⟩
  · refine hr'.but hF ?_
    rcases hr'.block with h0 | ⟨hne, b, hbk, hlt⟩
    · exact .inl h0
    · right
      intro b' hb''
      rw [hbk] at hb''
      injection hb'' with hb''
      subst hb''
      rcases hd with ⟨rfl, hl⟩ | hd
      · rcases hr.block with h0 | ⟨_, b2, hbk2, hlt2⟩
        · exact absurd (hl.trans h0) hne
        · rw [hbk] at hbk2
          injection hbk2 with hbk2
          omega
      · have := hd b hbk
        omega
  · rcases hd with hd | hd
    · exact .inl hd
    · exact .inr fun b hbk => Nat.le_trans hb.size (hd b hbk)
  · have hs := hb.size
    have hs' := hb'.size
    refine ⟨hF.os.trans (hb'.os.trans hb.os), hF.tape.trans (hb'.tape.trans hb.tape), hF.output.trans (hb'.output.trans hb.output), by have := hF.size; omega, fun k hk => ?_⟩
    rw [hF.block k (by omega) (by omega) (by omega), hb'.block k (by omega)]
    exact hb.block k hk

theorem nums1 {kind g : Int} {l : List Int} {shut : Bool} (h : MayS ⟨kind, l, shut, g⟩) (hk : kind ≤ 1) : l.length = 1 ∧ -1099511627776 ≤ l.getD 0 0 ∧ l.getD 0 0 ≤ 1099511627776 := by
  have hn := (numsOk_list (kind := kind) (l := l) (by omega) (by omega)).1 h.2.2.2.2.2
  have h1 := hn.2.1 hk
  exact ⟨h1, hn.2.2 0 (by show 0 < l.length; omega)⟩

theorem nums2 {kind g : Int} {l : List Int} {shut : Bool} (h : MayS ⟨kind, l, shut, g⟩) (hk : kind ≤ 3) : l.length ≤ 64 :=
  ((numsOk_list (kind := kind) (l := l) (by omega) (by omega)).1 h.2.2.2.2.2).1

theorem nums4 {g : Int} {l : List Int} {shut : Bool} (h : MayS ⟨4, l, shut, g⟩) : l.length % 2 = 0 ∧ l.length ≤ 128 := by
  have hn := (numsOk_4 l).1 h.2.2.2.2.2
  exact ⟨pairs_even hn.2, hn.1⟩

theorem pairs_mem : ∀ {l : List Int} {lo : Int}, -1 ≤ lo → Pairs 0 lo l → ∀ x ∈ l, 0 ≤ x ∧ x ≤ 1099511627776
  | [], _, _, _, x, hx => by simp at hx
  | [_], _, _, h, _, _ => by simp [Pairs] at h
  | a :: b :: r, lo, hlo, h, x, hx => by
    unfold Pairs at h
    have ih := pairs_mem (l := r) (lo := a) (by omega) h.2.2.2.2 x
    simp at hx
    rcases hx with rfl | rfl | hx
    · omega
    · omega
    · exact ih hx

theorem nums5 {g : Int} {l : List Int} {shut : Bool} (h : MayS ⟨5, l, shut, g⟩) : l.length % 2 = 0 ∧ l.length ≤ 128 ∧ ∀ x ∈ l, 0 ≤ x ∧ x ≤ 1099511627776 := by
  have hn := (numsOk_5 l).1 h.2.2.2.2.2
  exact ⟨pairs_even hn.2, hn.1, pairs_mem (by decide) hn.2⟩

theorem had_i64 {least : Int} {l : List Int} {lo : Int} (hl : -1099511627776 ≤ least) (hp : Pairs least lo l) (key : Int) : I64 (hadF key l) := by
  rw [had_get]
  cases h : getP key l with
  | none => exact i64_small (by decide) (by decide)
  | some v =>
    have := getP_in hp h
    show I64 v
    exact i64_small (by omega) (by omega)

theorem in_i64 {l : List Int} (h : InBounds l) (j : Nat) : I64 (l.getD j 0) := by
  by_cases hj : j < l.length
  · have := h j hj
    exact i64_small (by omega) (by omega)
  · have e : l.getD j 0 = 0 := by simp [List.getD, hj]
    rw [e]
    exact i64_small (by decide) (by decide)

/-- What comes of a step is a number of 64 bits. -/
theorem step_resp (s : St) (o : Opn) : I64 (stepS s o).2 := by
  have c0 : I64 0 := i64_small (by decide) (by decide)
  have c1 : I64 1 := i64_small (by decide) (by decide)
  have cm : I64 (-1) := i64_small (by decide) (by decide)
  have cn : I64 (-2) := i64_small (by decide) (by decide)
  by_cases hm : MayS s
  · by_cases hs : s.shut = true
    · rw [step_shut hm hs]
      exact (i64_small (by decide) (by decide) : I64 (-1125899906842624))
    · have hs' : s.shut = false := by simpa using hs
      by_cases hc : o.code = 10
      · rw [step_seal hm hs' o hc]
        exact c0
      · rw [step_open hm hs' o hc]
        have h0 := hm.2.2.2.1
        have h6 := hm.2.2.2.2.1
        have hn := hm.2.2.2.2.2
        split
        · have hb := ((numsOk_list (by omega) (by omega)).1 hn).2.2
          unfold oneS
          repeat' split
          all_goals first | exact in_i64 hb 0 | exact c0
        split
        · have hl := (numsOk_list (by omega) (by omega)).1 hn
          have hb := hl.2.2
          have h64 : I64 ((s.L.length : Int)) := i64_small (by omega) (by have := hl.1; omega)
          have h65 : I64 ((s.L.length : Int) + 1) := i64_small (by omega) (by have := hl.1; omega)
          unfold listS
          repeat' split
          all_goals first | exact in_i64 hb _ | exact c0 | exact cm | exact h64 | exact h65
        split
        · rename_i hk
          rw [hk, numsOk_4] at hn
          have hh := had_i64 (by decide) hn.2 o.a
          unfold storeS
          repeat' split
          all_goals first | exact c0 | exact cm | exact cn | exact hh
        · have hk : s.kind = 5 := by omega
          rw [hk, numsOk_5] at hn
          have hh := had_i64 (by decide) hn.2 o.a
          unfold ledgerS moveS
          repeat' split
          all_goals first | exact c0 | exact c1 | exact cm | exact cn | exact hh | exact cut_i64 _
  · rw [step_not hm]
    exact c0

/-- What a fold answers. -/
def Folded (w : World) (r : St × List Int) (e : Ending) (w' : World) : Prop :=
  ∃ vl' vo, e = .returned (.tuple #[.agg #[.int .i64 r.1.kind, vl', .bool r.1.shut, .int .i64 r.1.eng], vo]) ∧ RdI w' vl' r.1.L ∧ I64 r.1.kind ∧ I64 r.1.eng ∧ RdI w' vo r.2 ∧ Below w.heap.size w w'

/-- What Start answers. -/
def Started (w : World) (s : St) (e : Ending) (w' : World) : Prop := ∃ v', e = .returned v' ∧ StV w' v' s ∧ Below w.heap.size w w'

theorem OwnI.but {w w' : World} {B : Nat} {v : Value} {l : List Int} (h : OwnI w B v l) {R T : Nat} (hb : But R T w w') (hn : ∀ b, v.ownBlock = some b → b ≠ R ∧ b ≠ T) : OwnI w' B v l := by
  obtain ⟨h1, h2⟩ := h
  refine ⟨h1, ?_⟩
  rcases h2 with h2 | ⟨g, cap, cur, hv, hbg, hg, r⟩
  · exact .inl h2
  · have hlt : g < w.heap.size := (Array.getElem?_eq_some_iff.1 hg).1
    obtain ⟨n1, n2⟩ := hn g (by rw [hv]; rfl)
    exact .inr ⟨g, cap, cur, hv, hbg, by rw [hb.block g hlt n1 n2]; exact hg, r⟩

/-- The four cells of a box are written. -/
theorem heap_four (w : World) (b : Nat) (c0 c1 c2 c3 : Value) (ty : TypeId) (h : w.heap[b]? = some (.cells #[c0, c1, c2, c3] ty (0, 0))) (x0 x1 x2 x3 : Value) :
    ((((w.setCell ⟨b, 0, none⟩ x0).setCell ⟨b, 1, none⟩ x1).setCell ⟨b, 2, none⟩ x2).setCell ⟨b, 3, none⟩ x3).heap[b]? = some (.cells #[x0, x1, x2, x3] ty (0, 0)) := by
  have h0 := heap_setCell_same w b 0 _ _ x0 h
  have h1 := heap_setCell_same _ b 1 _ _ x1 h0
  have h2 := heap_setCell_same _ b 2 _ _ x2 h1
  have h3 := heap_setCell_same _ b 3 _ _ x3 h2
  simpa using h3

theorem RdI.grown {w w' : World} {v : Value} {l : List Int} {row : Option Nat} (h : RdI w v l) (hg : w.grownBy w' row) (hn : l = [] ∨ ∀ b, v.ownBlock = some b → some b ≠ row) : RdI w' v l := by
  obtain ⟨ao, cap, h1, h2, h3, hn0, hi, h4⟩ := h
  refine ⟨ao, cap, h1, h2, h3, hn0, hi, ?_⟩
  rcases h4 with h4 | ⟨b, off, h5, h6⟩
  · exact .inl h4
  · rcases hn with hn | hn
    · exact .inl hn
    · refine .inr ⟨b, off, h5, fun j hj => ?_⟩
      exact hg.cell (h6 j hj) (hn b (by rw [h1, h5]; rfl))

theorem size_set (w : World) (b i : Nat) (x : Value) : (w.setCell ⟨b, i, none⟩ x).heap.size = w.heap.size := by simp [World.setCell]

theorem size_four (w : World) (b : Nat) (x1 x2 x3 x4 : Value) : ((((w.setCell ⟨b, 0, none⟩ x1).setCell ⟨b, 1, none⟩ x2).setCell ⟨b, 2, none⟩ x3).setCell ⟨b, 3, none⟩ x4).heap.size = w.heap.size := by
  rw [size_set, size_set, size_set, size_set]

theorem size_four_alloc (w : World) (b : Nat) (x1 x2 x3 x4 : Value) (X : Obj) : (((((w.setCell ⟨b, 0, none⟩ x1).setCell ⟨b, 1, none⟩ x2).setCell ⟨b, 2, none⟩ x3).setCell ⟨b, 3, none⟩ x4).alloc X).heap.size = w.heap.size + 1 := by
  have h : ∀ u : World, (u.alloc X).heap.size = u.heap.size + 1 := fun u => by simp
  rw [h, size_four]

theorem size_eight (w : World) (b c : Nat) (x1 x2 x3 x4 y1 y2 y3 y4 : Value) : ((((((((w.setCell ⟨b, 0, none⟩ x1).setCell ⟨b, 1, none⟩ x2).setCell ⟨b, 2, none⟩ x3).setCell ⟨b, 3, none⟩ x4).setCell ⟨c, 0, none⟩ y1).setCell ⟨c, 1, none⟩ y2).setCell ⟨c, 2, none⟩ y3).setCell ⟨c, 3, none⟩ y4).heap.size = w.heap.size := by
  rw [size_four, size_four]

/-- Numbers that are read, where there are some. -/
theorem RdI.filled {w : World} {v : Value} {l : List Int} (h : RdI w v l) (hl : l ≠ []) : ∃ b off cap, v = .slice (some ⟨b, off, none⟩) l.length cap ∧ b < w.heap.size ∧ ∀ j, j < l.length → w.cell? ⟨b, off + j, none⟩ = some (.int .i64 (l.getD j 0)) := by
  obtain ⟨ao, cap, h1, h2, h3, hn, hi, h4⟩ := h
  rcases h4 with h4 | ⟨b, off, h5, h6⟩
  · exact absurd h4 hl
  · have h0 : 0 < l.length := List.length_pos_iff.2 hl
    exact ⟨b, off, cap, by rw [h1, h5], World.block_lt_of_cell? w ⟨b, off + 0, none⟩ (h6 0 h0), h6⟩

/-- The value and the answer of a step, opened. -/
theorem Stepped.open {w w' : World} {vl : Value} {L : List Int} {k g n : Int} {L' : List Int} {s : Bool} {e : Ending} (h : Stepped w vl L (⟨k, L', s, g⟩, n) e w') :
    ∃ ao cap, e = .returned (.tuple #[.agg #[.int .i64 k, .slice ao L'.length cap, .bool s, .int .i64 g], .int .i64 n]) ∧ RdI w' (.slice ao L'.length cap) L' ∧ I64 k ∧ I64 g ∧ Below w.heap.size w w' := by
  obtain ⟨v', he, hr, hk, hg, _, hb⟩ := h
  have hr' := hr
  obtain ⟨ao, cap, rfl, _⟩ := hr
  exact ⟨ao, cap, he, hr', hk, hg, hb⟩

/-- An operation's box. -/
def Bo (w : World) (b : Nat) (cs : Array Value) : Prop := w.heap[b]? = some (.cells cs 30 (0, 0))

theorem Bo.lt {w : World} {b : Nat} {cs : Array Value} (h : Bo w b cs) : b < w.heap.size := (Array.getElem?_eq_some_iff.1 h).1

theorem Bo.below {w w' : World} {b B : Nat} {cs : Array Value} (h : Bo w b cs) (hb : Below B w w') (hB : w.heap.size ≤ B) : Bo w' b cs := (hb.block b (by have := h.lt; omega)).trans h

theorem Bo.cell {w : World} {b : Nat} {cs : Array Value} (h : Bo w b cs) (j : Nat) : w.cell? ⟨b, j, none⟩ = cs[j]? ∧ w.frozen? ⟨b, j, none⟩ = false := ⟨cell_of_row w b j _ _ _ h, frozen_of_row w b j _ _ h⟩

theorem sameS_refl (s : St) : SameS s s := ⟨rfl, rfl, rfl, rfl⟩

theorem OwnI.four {w : World} {C : Nat} {v : Value} {l : List Int} (h : OwnI w C v l) (R : Nat) (hR : R < C) (x1 x2 x3 x4 : Value) : OwnI ((((w.setCell ⟨R, 0, none⟩ x1).setCell ⟨R, 1, none⟩ x2).setCell ⟨R, 2, none⟩ x3).setCell ⟨R, 3, none⟩ x4) C v l :=
  ownsRow_setCell_below (ownsRow_setCell_below (ownsRow_setCell_below (ownsRow_setCell_below h hR _) hR _) hR _) hR _

theorem OwnI.fresh {w : World} {B : Nat} {v : Value} {l : List Int} (h : OwnI w B v l) : ∀ b, v.ownBlock = some b → B ≤ b := fun b hb => (World.ownsRow.lt h b hb).1

end Go.Proofs.Ytgmdhlchdjlgnab
