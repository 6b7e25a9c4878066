import Derived.Test.YtedfacbngefhnaaRows
import Derived.WalkKit
import Derived.ProofKit
import Derived.Deep.Draws
import Derived.ChangeSlices
import Derived.Lib.VarintMem
import Derived.Lib.Zigzag
import Derived.Lib.Endian
import Derived.Lib.VarintBits
import Derived.Deep.QuietTactic
import Derived.BigQuiet
import Derived.Deep.DeepCutAuto
import Derived.Laws.ResultCell
import Derived.Laws.NewDeep
import Derived.Deep.RegionHeld
import Derived.Maps.AppendAt
/- What texts on bytes and texts on numbers both lean on. -/
namespace Go.Proofs.Ytedfacbngefhnaa
open Go.RowKit

theorem below_drewN {B : Nat} {a w : World} (h : Below B a w) (n : Nat) : Below B a (w.drewN n) := ⟨h.os, h.tape, h.output, h.size, h.block⟩

set_option maxRecDepth 100000 in
theorem hide {p : Prop} (h : p) : Hid p := h

set_option maxRecDepth 100000 in
theorem i64_bd {n : Int} (h : (Lit.int .i64 n).wf = true) : -9223372036854775808 ≤ n ∧ n ≤ 9223372036854775807 := by
  simpa [Lit.wf, IntKind.min, IntKind.max, IntKind.signed, IntKind.bits] using h

set_option maxRecDepth 100000 in
theorem u64_bd {n : Int} (h : (Lit.int .u64 n).wf = true) : 0 ≤ n ∧ n ≤ 18446744073709551615 := by
  simpa [Lit.wf, IntKind.min, IntKind.max, IntKind.signed, IntKind.bits] using h

set_option maxRecDepth 100000 in
theorem ret_bool {a b : Bool} (h : a = b) : Ending.returned (.bool a) = .returned (.bool b) := by rw [h]

end Go.Proofs.Ytedfacbngefhnaa

/- Slices of numbers in memory: what one reads ('RdI'), what a call owns ('OwnI'), and append onto them. -/
namespace Go.Proofs.Ytedfacbngefhnaa
open Go.RowKit

theorem hide' {p : Prop} (h : p) : Hid p := h

/-- A number of 64 bits. -/
def I64 (n : Int) : Prop := -9223372036854775808 ≤ n ∧ n ≤ 9223372036854775807

/-- The slice value v reads, in the world w, as the numbers l. -/
def RdI (w : World) (v : Value) (l : List Int) : Prop :=
  ∃ ao cap, v = .slice ao l.length cap ∧ l.length ≤ cap ∧ cap ≤ maxLen ∧ (ao = none → cap = 0) ∧ (∀ n ∈ l, I64 n) ∧
    (l = [] ∨ ∃ b off, ao = some ⟨b, off, none⟩ ∧ ∀ j, j < l.length → w.cell? ⟨b, off + j, none⟩ = some (.int .i64 (l.getD j 0)))

/-- The cells of numbers. -/
def intCells (l : List Int) : List Value := l.map (Value.int .i64)

/-- The slice value v lies at the head of a row of its own, from block B on, that holds the numbers l. -/
def OwnI (w : World) (B : Nat) (v : Value) (l : List Int) : Prop := w.ownsRow B 3 1 v l.length (intCells l)

theorem intCells_length (l : List Int) : (intCells l).length = l.length := by simp [intCells]

theorem intCells_get (l : List Int) (j : Nat) (h : j < l.length) : (intCells l)[j]? = some (.int .i64 (l.getD j 0)) := by
  simp [intCells, List.getD, h]

theorem intCells_one (l : List Int) : ∀ u ∈ intCells l, u.oneCell' = true := by
  intro u hu
  obtain ⟨_, _, rfl⟩ := List.mem_map.1 hu
  rfl

theorem RdI.nil (w : World) : RdI w (.slice none 0 0) [] := ⟨none, 0, rfl, Nat.le_refl _, Nat.zero_le _, fun _ => rfl, (fun n h => by simp at h), .inl rfl⟩

theorem OwnI.nil (w : World) (B : Nat) : OwnI w B (.slice none 0 0) [] := World.ownsRow_nil w B 3 1

theorem RdI.i64 {w : World} {v : Value} {l : List Int} (h : RdI w v l) : ∀ n ∈ l, I64 n := by
  obtain ⟨_, _, _, _, _, _, h, _⟩ := h
  exact h

theorem getD_i64 {l : List Int} (h : ∀ n ∈ l, I64 n) (j : Nat) : I64 (l.getD j 0) := by
  by_cases hj : j < l.length
  · have e : l.getD j 0 = l[j] := by simp [List.getD, hj]
    rw [e]
    exact h _ (List.getElem_mem hj)
  · have e : l.getD j 0 = 0 := by simp [List.getD, hj]
    rw [e]
    exact ⟨by decide, by decide⟩

theorem RdI.below {w w' : World} {v : Value} {l : List Int} (h : RdI w v l) {B : Nat} (hb : Below B w w') (hB : w.heap.size ≤ B) : RdI w' v l := by
  obtain ⟨ao, cap, h1, h2, h3, hn, hw, h4⟩ := h
  refine ⟨ao, cap, h1, h2, h3, hn, hw, ?_⟩
  rcases h4 with h4 | ⟨b, off, h5, h6⟩
  · exact .inl h4
  · refine .inr ⟨b, off, h5, fun j hj => ?_⟩
    have hc := h6 j hj
    have hlt : b < w.heap.size := World.block_lt_of_cell? w ⟨b, off + j, none⟩ hc
    rw [hb.cell (p := ⟨b, off + j, none⟩) (by exact Nat.lt_of_lt_of_le hlt hB)]
    exact hc

/-- A row of numbers that came in. -/
theorem RdI.ofRow {w : World} {x : Addr} {len cap : Nat} {zs : List Int} (hl : len ≤ cap) (hm : cap ≤ maxLen) (hz : zs.length = cap) (hcell : ∀ i, i < zs.length → w.cell? (x.add i) = some (.int .i64 (zs.getD i 0))) (hwz : ∀ n ∈ zs, (Lit.int .i64 n).wf = true) :
    RdI w (.slice (some x) len cap) (zs.take len) := by
  have hlen : (zs.take len).length = len := by simp; omega
  refine ⟨some x, cap, by rw [hlen], by omega, hm, (fun e => by cases e), fun n hn => ?_, ?_⟩
  · have := hwz n (List.mem_of_mem_take hn)
    simpa [I64, Lit.wf, IntKind.min, IntKind.max, IntKind.signed, IntKind.bits] using this
  · by_cases h0 : len = 0
    · exact .inl (by rw [h0]; rfl)
    · obtain ⟨b, off, spot⟩ := x
      have hc := hcell 0 (by omega)
      have hspot : spot = none := by simpa [Addr.add] using World.cell?_spot hc
      subst hspot
      refine .inr ⟨b, off, rfl, fun j hj => ?_⟩
      have hcj := hcell j (by omega)
      rw [Addr.add_lit] at hcj
      rw [hcj]
      have hj' : j < len := by omega
      simp [List.getD, hj']

theorem OwnI.rd {w : World} {B : Nat} {v : Value} {l : List Int} (h : OwnI w B v l) (hw : ∀ n ∈ l, I64 n) : RdI w v l := by
  rcases h.2 with ⟨hv, hn⟩ | ⟨g, cap, cur, hv, hb, hg, hnc, hcm, hcs, htake⟩
  · exact ⟨none, 0, by rw [hv, hn], by omega, Nat.zero_le _, fun _ => rfl, hw, .inl (List.eq_nil_of_length_eq_zero hn)⟩
  · refine ⟨some ⟨g, 0, none⟩, cap, hv, hnc, hcm, (fun e => by cases e), hw, .inr ⟨g, 0, rfl, fun j hj => ?_⟩⟩
    have := World.ownsRow.cells h (g := g) (by rw [hv]; rfl) j _ (intCells_get l j hj)
    rw [Addr.add_lit] at this
    exact this

theorem OwnI.mono {w : World} {B B' : Nat} {v : Value} {l : List Int} (h : OwnI w B v l) (hB : B' ≤ B) : OwnI w B' v l := by
  obtain ⟨h1, h2⟩ := h
  refine ⟨h1, ?_⟩
  rcases h2 with h2 | ⟨g, cap, cur, hv, hb, r⟩
  · exact .inl h2
  · exact .inr ⟨g, cap, cur, hv, by omega, r⟩

theorem OwnI.below {w w' : World} {B B' : Nat} {v : Value} {l : List Int} (h : OwnI w B v l) (hb : Below B' w w') (hB : w.heap.size ≤ B') : OwnI w' B v l := by
  obtain ⟨h1, h2⟩ := h
  refine ⟨h1, ?_⟩
  rcases h2 with h2 | ⟨g, cap, cur, hv, hbg, hg, r⟩
  · exact .inl h2
  · have hlt : g < w.heap.size := (Array.getElem?_eq_some_iff.1 hg).1
    exact .inr ⟨g, cap, cur, hv, hbg, by rw [hb.block g (by omega)]; exact hg, r⟩

theorem info_i64 : (Try.prog.info? 3).map (fun i => (i.zero, i.size, i.bytes)) = some (some (.int .i64 0), 1, 8) := by kernel_rfl

/-- The cells of what is read, for an append of them. -/
theorem RdI.cells {w : World} {ao : Option Addr} {l : List Int} (h : l = [] ∨ ∃ b off, ao = some ⟨b, off, none⟩ ∧ ∀ j, j < l.length → w.cell? ⟨b, off + j, none⟩ = some (.int .i64 (l.getD j 0))) :
    ∀ ad, ao = some ad → ∀ j u, (intCells l)[j]? = some u → w.cell? (ad.add j) = some u := by
  intro ad had j u hu
  have hj : j < l.length := by
    have := (List.getElem?_eq_some_iff.1 hu).1
    simpa [intCells] using this
  rcases h with rfl | ⟨b, off, h5, h6⟩
  · simp at hj
  · rw [h5] at had
    obtain rfl := Option.some.inj had
    rw [Addr.add_lit, h6 j hj, ← intCells_get l j hj, hu]

/-- One number more behind numbers of the call's own. -/
theorem run_append_int (w : World) (ty : TypeId) (B : Nat) (v : Value) (l : List Int) (h : OwnI w B v l) (n : Int) (hlim : l.length ≤ 1000000) (hbase : B ≤ w.heap.size) :
    ∃ v' w', (Builtin.append_ #[22, 22] ty #[v, .slice (some ⟨w.heap.size, 0, none⟩) 1 1]).run Try.prog (w.alloc (.cells #[.int .i64 n] 3)) = .ok v' w' ∧ OwnI w' B v' (l ++ [n]) ∧ Below B w w' := by
  obtain ⟨i0, hi, hz0, hz1, hz2⟩ := info_parts info_i64
  obtain ⟨v', w', hrun, ho, hg, _⟩ := run_append_own (P := Try.prog) (w.alloc (.cells #[.int .i64 n] 3)) B 22 ty 3 i0 (.int .i64 0) 1 8 Try.underlying22 hi hz0 hz1 hz2 rfl (by decide) v l.length (intCells l) (World.ownsRow.alloc h _)
    ⟨w.heap.size, 0, none⟩ 1 1 [.int .i64 n] rfl (fun j u hj => by
      match j, hj with
      | 0, hj => simp at hj; subst hj; simp [Addr.add]) (fun u hu => by simp at hu; subst hu; rfl) (by unfold maxLen; omega) (by omega) (by simp; omega)
  refine ⟨v', w', hrun, ?_, ?_⟩
  · unfold OwnI
    have e1 : (l ++ [n]).length = l.length + 1 := by simp
    have e2 : intCells (l ++ [n]) = intCells l ++ [.int .i64 n] := by simp [intCells]
    rw [e1, e2]
    exact ho
  · exact ((Below.refl _ _).alloc hbase _).grown hg (by simp; omega) (fun k hk => (World.ownsRow.lt h k hk).1)

theorem wpList_append_int (w : World) {ops : Array Oper} {rest : List Oper} {o : Oper} {a : Act} {Q : Exit → Act → World → Prop} (hgd : o.guard = none) (s x : Operand)
    (ho : o.op = .call { callee := .builtin .append, args := #[s, x], argTypes := #[22, 22] })
    (B : Nat) (v : Value) (l : List Int) (hs : a.eval s = v) (hown : OwnI w B v l) (n : Int) (hx : a.eval x = .slice (some ⟨w.heap.size, 0, none⟩) 1 1)
    (hlim : l.length ≤ 1000000) (hbase : B ≤ w.heap.size)
    (h : ∀ v' w', OwnI w' B v' (l ++ [n]) → Below B w w' → wpList Try.prog ops Q rest (a.put o.dst v') w') : wpList Try.prog ops Q (o :: rest) a (w.alloc (.cells #[.int .i64 n] 3)) :=
  wpList_plain hgd fun _ hK => by
    obtain ⟨v', w', hrun, h2, h3⟩ := run_append_int w o.type B v l hown n hlim hbase
    unfold Oper.wp execOp
    simp only [ho, resolve, invoke, builtin, Sem.run_bind, Sem.run_pure, Result.andThen_ok, List.map_toArray, List.map_cons, List.map_nil, hs, hx, hrun]
    exact hK _ _ (h v' w' h2 h3)

/-- Numbers behind numbers of the call's own. -/
theorem run_append_ints (w : World) (ty : TypeId) (B : Nat) (v : Value) (l0 : List Int) (hown : OwnI w B v l0) (vx : Value) (l : List Int) (hr : RdI w vx l)
    (hlim : l0.length + l.length ≤ 1000000) (hbase : B ≤ w.heap.size) :
    ∃ v' w', (Builtin.append_ #[22, 22] ty #[v, vx]).run Try.prog w = .ok v' w' ∧ OwnI w' B v' (l0 ++ l) ∧ Below B w w' := by
  obtain ⟨i0, hi, hz0, hz1, hz2⟩ := info_parts info_i64
  obtain ⟨ao, cap, rfl, hlc, hcm, hn0, _, hao⟩ := hr
  cases ao with
  | none =>
    have hc := hn0 rfl
    subst hc
    have hl : l = [] := List.eq_nil_of_length_eq_zero (by omega)
    subst hl
    have hrun := run_append_owned_none (P := Try.prog) w B 22 ty 3 i0 1 Try.underlying22 hi v l0.length (intCells l0) hown
    exact ⟨v, w, hrun, by rw [List.append_nil]; exact hown, Below.refl _ _⟩
  | some a =>
    obtain ⟨v', w', hrun, ho, hg, _⟩ := run_append_own (P := Try.prog) w B 22 ty 3 i0 (.int .i64 0) 1 8 Try.underlying22 hi hz0 hz1 hz2 rfl (by decide) v l0.length (intCells l0) hown a l.length cap (intCells l)
      (by rw [intCells_length, Nat.mul_one]) (RdI.cells hao a rfl) (intCells_one l) (by unfold maxLen; omega) (by omega) hbase
    refine ⟨v', w', hrun, ?_, ?_⟩
    · unfold OwnI
      have e1 : (l0 ++ l).length = l0.length + l.length := by simp
      have e2 : intCells (l0 ++ l) = intCells l0 ++ intCells l := by simp [intCells]
      rw [e1, e2]
      exact ho
    · exact (Below.refl _ _).grown hg hbase (fun k hk => (World.ownsRow.lt hown k hk).1)

theorem wpList_append_ints (w : World) {ops : Array Oper} {rest : List Oper} {o : Oper} {a : Act} {Q : Exit → Act → World → Prop} (hgd : o.guard = none) (s x : Operand)
    (ho : o.op = .call { callee := .builtin .append, args := #[s, x], argTypes := #[22, 22] })
    (B : Nat) (v : Value) (l0 : List Int) (hs : a.eval s = v) (hown : OwnI w B v l0) (vx : Value) (l : List Int) (hx : a.eval x = vx) (hr : RdI w vx l)
    (hlim : l0.length + l.length ≤ 1000000) (hbase : B ≤ w.heap.size)
    (h : ∀ v' w', OwnI w' B v' (l0 ++ l) → Below B w w' → wpList Try.prog ops Q rest (a.put o.dst v') w') : wpList Try.prog ops Q (o :: rest) a w :=
  wpList_plain hgd fun _ hK => by
    obtain ⟨v', w', hrun, h2, h3⟩ := run_append_ints w o.type B v l0 hown vx l hr hlim hbase
    unfold Oper.wp execOp
    simp only [ho, resolve, invoke, builtin, Sem.run_bind, Sem.run_pure, Result.andThen_ok, List.map_toArray, List.map_cons, List.map_nil, hs, hx, hrun]
    exact hK _ _ (h v' w' h2 h3)

end Go.Proofs.Ytedfacbngefhnaa

/- Objects: the mathematics of layer objs: what its promises say, over plain lists of numbers. -/
namespace Go.Proofs.Ytedfacbngefhnaa

/-- A number, cut. -/
def cutZ (n : Int) : Int := if n < -1099511627776 then -1099511627776 else if 1099511627776 < n then 1099511627776 else n

theorem cutZ_in (n : Int) : -1099511627776 ≤ cutZ n ∧ cutZ n ≤ 1099511627776 := by
  unfold cutZ
  split
  · omega
  · split <;> omega

theorem cutZ_same {n : Int} (h0 : -1099511627776 ≤ n) (h1 : n ≤ 1099511627776) : cutZ n = n := by
  unfold cutZ
  rw [if_neg (by omega), if_neg (by omega)]

theorem cutZ_eq (n : Int) : n = cutZ n ↔ -1099511627776 ≤ n ∧ n ≤ 1099511627776 := by
  constructor
  · intro h
    rw [h]
    exact cutZ_in n
  · intro h
    rw [cutZ_same h.1 h.2]

/-- An object's state. -/
structure St where
  kind : Int
  L : List Int
  shut : Bool
  eng : Int

/-- An operation. -/
structure Opn where
  code : Int
  a : Int
  b : Int

/-- The pair at place k is as told. -/
def PairAt (least : Int) (l : List Int) (k : Nat) : Prop :=
  0 ≤ l.getD k 0 ∧ l.getD k 0 ≤ 255 ∧ (0 < k → l.getD (k - 2) 0 < l.getD k 0) ∧ least ≤ l.getD (k + 1) 0 ∧ l.getD (k + 1) 0 ≤ 1099511627776

instance (least : Int) (l : List Int) (k : Nat) : Decidable (PairAt least l k) := by unfold PairAt; infer_instance

/-- Numbers are pairs as told. -/
def PairsOk (least : Int) (l : List Int) : Prop := l.length % 2 = 0 ∧ l.length ≤ 128 ∧ ∀ k, k < l.length → k % 2 = 0 → PairAt least l k

instance (least : Int) (l : List Int) : Decidable (PairsOk least l) := by unfold PairsOk; infer_instance

/-- Numbers are within the bounds. -/
def InBounds (l : List Int) : Prop := ∀ j, j < l.length → -1099511627776 ≤ l.getD j 0 ∧ l.getD j 0 ≤ 1099511627776

instance (l : List Int) : Decidable (InBounds l) := by unfold InBounds; infer_instance

/-- The numbers of a kind are as told. -/
def NumsOk (kind : Int) (l : List Int) : Prop :=
  if kind = 4 then PairsOk (-1099511627776) l else if kind = 5 then PairsOk 0 l else l.length ≤ 64 ∧ (kind ≤ 1 → l.length = 1) ∧ InBounds l

instance (kind : Int) (l : List Int) : Decidable (NumsOk kind l) := by unfold NumsOk; infer_instance

/-- A state may be. -/
def MayS (s : St) : Prop := 0 ≤ s.eng ∧ s.eng ≤ 2 ∧ (s.shut = false → s.eng = 0) ∧ 0 ≤ s.kind ∧ s.kind < 6 ∧ NumsOk s.kind s.L

instance (s : St) : Decidable (MayS s) := by unfold MayS; infer_instance

/-- An operation may be told. -/
def FitsO (o : Opn) : Prop := 0 ≤ o.code ∧ o.code ≤ 10 ∧ -1099511627776 ≤ o.a ∧ o.a ≤ 1099511627776 ∧ -1099511627776 ≤ o.b ∧ o.b ≤ 1099511627776

instance (o : Opn) : Decidable (FitsO o) := by unfold FitsO; infer_instance

/-- How an object begins. -/
def startS (kind : Int) : St := if kind < 0 ∨ 6 ≤ kind then ⟨0, [], false, 0⟩ else ⟨kind, if kind ≤ 1 then [0] else [], false, 0⟩

/-- The place of a key's pair, counted from k on; -1: there is none. -/
def findF (key : Int) : Nat → List Int → Int
  | k, a :: _ :: r => if a = key then (k : Int) else findF key (k + 2) r
  | _, _ => -1

/-- Pairs in which a key has a number. -/
def withF (key n : Int) : Bool → List Int → List Int
  | done, a :: b :: r => (if done = false ∧ key ≤ a then [key, n] else []) ++ ((if a ≠ key then [a, b] else []) ++ withF key n (done || decide (key ≤ a)) r)
  | done, _ => if done then [] else [key, n]

/-- Pairs without a key's. -/
def withoutF (key : Int) : List Int → List Int
  | a :: b :: r => (if a ≠ key then [a, b] else []) ++ withoutF key r
  | _ => []

theorem drop_pair (l : List Int) (k : Nat) (h : k + 1 < l.length) : l.drop k = l.getD k 0 :: l.getD (k + 1) 0 :: l.drop (k + 2) := by
  rw [List.drop_eq_getElem_cons (show k < l.length by omega), List.drop_eq_getElem_cons h]
  simp [List.getD, h, show k < l.length by omega]

theorem withF_length (key n : Int) : ∀ (l : List Int) (done : Bool), (withF key n done l).length ≤ l.length + 2
  | [], done => by unfold withF; split <;> simp
  | [a], done => by unfold withF; split <;> simp
  | a :: b :: r, done => by
    have ih := withF_length key n r (done || decide (key ≤ a))
    unfold withF
    have h1 : (if done = false ∧ key ≤ a then [key, n] else ([] : List Int)).length + (withF key n (done || decide (key ≤ a)) r).length ≤ r.length + 2 := by
      by_cases h : done = false ∧ key ≤ a
      · rw [if_pos h]
        have e : (done || decide (key ≤ a)) = true := by simp [h.2]
        rw [e]
        have h2 := withF_true key n r
        simp
        omega
      · rw [if_neg h]
        simpa using ih
    have h2 : (if a ≠ key then [a, b] else ([] : List Int)).length ≤ 2 := by split <;> simp
    simp only [List.length_append, List.length_cons]
    omega
where
  withF_true (key n : Int) : ∀ (l : List Int), (withF key n true l).length ≤ l.length
  | [] => by simp [withF]
  | [a] => by simp [withF]
  | a :: b :: r => by
    have ih := withF_true key n r
    unfold withF
    simp only [Bool.true_or]
    split <;> split <;> simp_all <;> omega

end Go.Proofs.Ytedfacbngefhnaa

/- Objects: what a step makes of a state, over plain lists of numbers, and what follows from it. -/
namespace Go.Proofs.Ytedfacbngefhnaa

/-- A counter's or a register's step. -/
def oneS (s : St) (o : Opn) : St × Int :=
  if s.kind = 0 ∧ o.code = 1 then (⟨s.kind, [cutZ (s.L.getD 0 0 + cutZ o.a)], s.shut, s.eng⟩, s.L.getD 0 0) else
  if s.kind = 1 ∧ o.code = 2 then (⟨s.kind, [cutZ o.a], s.shut, s.eng⟩, s.L.getD 0 0) else
  if o.code = 7 then (s, s.L.getD 0 0) else (s, 0)

/-- A queue's or a stack's step. -/
def listS (s : St) (o : Opn) : St × Int :=
  if o.code = 3 then (if s.L.length = 64 then (s, -1) else (⟨s.kind, s.L ++ [cutZ o.a], s.shut, s.eng⟩, (s.L.length : Int) + 1)) else
  if o.code = 4 then (if s.L.length = 0 then (s, -1) else if s.kind = 2 then (⟨s.kind, s.L.drop 1, s.shut, s.eng⟩, s.L.getD 0 0) else (⟨s.kind, s.L.take (s.L.length - 1), s.shut, s.eng⟩, s.L.getD (s.L.length - 1) 0)) else
  if o.code = 7 then (s, (s.L.length : Int)) else (s, 0)

/-- What a key has, or -1. -/
def hadF (key : Int) (l : List Int) : Int := if 0 ≤ findF key 0 l then l.getD ((findF key 0 l).toNat + 1) 0 else -1

/-- A store's step. -/
def storeS (s : St) (o : Opn) : St × Int :=
  if o.code ≠ 7 ∧ o.code ≠ 6 ∧ o.code ≠ 5 then (s, 0) else
  if o.a < 0 ∨ 255 < o.a then (s, -1) else
  if o.code = 6 then (⟨s.kind, withoutF o.a s.L, s.shut, s.eng⟩, hadF o.a s.L) else
  if o.code = 5 then (if findF o.a 0 s.L < 0 ∧ s.L.length = 128 then (s, -2) else (⟨s.kind, withF o.a (cutZ o.b) false s.L, s.shut, s.eng⟩, hadF o.a s.L)) else
  (s, hadF o.a s.L)

/-- What a key has, or 0. -/
def hasF (key : Int) (l : List Int) : Int := if 0 ≤ findF key 0 l then l.getD ((findF key 0 l).toNat + 1) 0 else 0

/-- A move within a ledger. -/
def moveS (s : St) (o : Opn) : St × Int :=
  if o.a < 0 ∨ 65535 < o.a ∨ o.b < 0 then (s, 0) else
  if findF (o.a / 256) 0 s.L < 0 ∨ hasF (o.a / 256) s.L < o.b then (s, 0) else
  if o.a / 256 = o.a % 256 then (s, 1) else
  if (findF (o.a % 256) 0 s.L < 0 ∧ s.L.length = 128) ∨ 1099511627776 < hasF (o.a % 256) s.L + o.b then (s, 0) else
  (⟨s.kind, withF (o.a % 256) (hasF (o.a % 256) s.L + o.b) false (withF (o.a / 256) (hasF (o.a / 256) s.L - o.b) false s.L), s.shut, s.eng⟩, 1)

/-- A ledger's step. -/
def ledgerS (s : St) (o : Opn) : St × Int :=
  if o.code = 9 then moveS s o else
  if o.code ≠ 7 ∧ o.code ≠ 8 then (s, 0) else
  if o.a < 0 ∨ 255 < o.a then (s, -1) else
  if o.code = 7 then (s, hadF o.a s.L) else
  if o.b < 0 then (s, -1) else
  if findF o.a 0 s.L < 0 ∧ s.L.length = 128 then (s, -2) else
  (⟨s.kind, withF o.a (cutZ (hasF o.a s.L + cutZ o.b)) false s.L, s.shut, s.eng⟩, cutZ (hasF o.a s.L + cutZ o.b))

/-- A state behind an operation, and what came of it. -/
def stepS (s : St) (o : Opn) : St × Int :=
  if ¬ MayS s then (s, 0) else
  if s.shut = true then (s, -1125899906842624) else
  if o.code = 10 then (⟨s.kind, s.L, true, if 0 ≤ o.a ∧ o.a ≤ 2 then o.a else s.eng⟩, 0) else
  if s.kind ≤ 1 then oneS s o else if s.kind ≤ 3 then listS s o else if s.kind = 4 then storeS s o else ledgerS s o

/-- A state behind operations, and what came of each. -/
def foldS : St → List Opn → St × List Int
  | s, [] => (s, [])
  | s, o :: r => ((foldS (stepS s o).1 r).1, (stepS s o).2 :: (foldS (stepS s o).1 r).2)

theorem foldS_snoc : ∀ (l : List Opn) (s : St) (o : Opn), foldS s (l ++ [o]) = ((stepS (foldS s l).1 o).1, (foldS s l).2 ++ [(stepS (foldS s l).1 o).2])
  | [], _, _ => rfl
  | p :: r, s, o => by
    rw [List.cons_append, foldS, foldS_snoc r (stepS s p).1 o, foldS]
    rfl

/-- Pairs as told, whose keys are above a number. -/
def Pairs (least : Int) : Int → List Int → Prop
  | lo, a :: b :: r => lo < a ∧ a ≤ 255 ∧ least ≤ b ∧ b ≤ 1099511627776 ∧ Pairs least a r
  | _, [] => True
  | _, [_] => False

/-- The pair at place k is as told, the keys being above a number. -/
def PairFrom (least lo : Int) (l : List Int) (k : Nat) : Prop :=
  (if k = 0 then lo else l.getD (k - 2) 0) < l.getD k 0 ∧ l.getD k 0 ≤ 255 ∧ least ≤ l.getD (k + 1) 0 ∧ l.getD (k + 1) 0 ≤ 1099511627776

theorem pairFrom_tail (least lo a b : Int) (r : List Int) (k : Nat) (hk : k % 2 = 0) : PairFrom least lo (a :: b :: r) (k + 2) ↔ PairFrom least a r k := by
  unfold PairFrom
  rw [if_neg (by omega)]
  by_cases h0 : k = 0
  · subst h0
    rw [if_pos rfl]
    exact Iff.rfl
  · rw [if_neg h0]
    obtain ⟨j, rfl⟩ : ∃ j, k = j + 2 := ⟨k - 2, by omega⟩
    exact Iff.rfl

theorem pairs_from (least : Int) : ∀ (l : List Int) (lo : Int), Pairs least lo l ↔ l.length % 2 = 0 ∧ ∀ k, k < l.length → k % 2 = 0 → PairFrom least lo l k
  | [], lo => by simp [Pairs]
  | [a], lo => by simp [Pairs]
  | a :: b :: r, lo => by
    have ih := pairs_from least r a
    unfold Pairs
    rw [ih]
    constructor
    · rintro ⟨h1, h2, h3, h4, h5, h6⟩
      refine ⟨by simp; omega, fun k hk hk2 => ?_⟩
      by_cases h0 : k = 0
      · subst h0
        exact ⟨by rw [if_pos rfl]; exact h1, h2, h3, h4⟩
      · obtain ⟨j, rfl⟩ : ∃ j, k = j + 2 := ⟨k - 2, by omega⟩
        rw [pairFrom_tail least lo a b r j (by omega)]
        exact h6 j (by simp at hk; omega) (by omega)
    · rintro ⟨h1, h2⟩
      have h0 := h2 0 (by simp) rfl
      unfold PairFrom at h0
      rw [if_pos rfl] at h0
      refine ⟨h0.1, h0.2.1, h0.2.2.1, h0.2.2.2, by simp at h1; omega, fun k hk hk2 => ?_⟩
      rw [← pairFrom_tail least lo a b r k hk2]
      exact h2 (k + 2) (by simp; omega) (by omega)

theorem pairs_above (least : Int) : ∀ (l : List Int) (lo : Int) (k : Nat), Pairs least lo l → k < l.length → k % 2 = 0 → lo < l.getD k 0
  | [], _, _, _, hk, _ => by simp at hk
  | [a], _, _, h, _, _ => by simp [Pairs] at h
  | a :: b :: r, lo, k, h, hk, hk2 => by
    unfold Pairs at h
    by_cases h0 : k = 0
    · subst h0
      exact h.1
    · obtain ⟨j, rfl⟩ : ∃ j, k = j + 2 := ⟨k - 2, by omega⟩
      have := pairs_above least r a j h.2.2.2.2 (by simp at hk; omega) (by omega)
      have e : (a :: b :: r).getD (j + 2) 0 = r.getD j 0 := rfl
      rw [e]
      have := h.1
      omega

theorem pairsOk_iff (least : Int) (l : List Int) : PairsOk least l ↔ l.length ≤ 128 ∧ Pairs least (-1) l := by
  constructor
  · rintro ⟨h1, h2, h3⟩
    refine ⟨h2, (pairs_from least l (-1)).2 ⟨h1, fun k hk hk2 => ?_⟩⟩
    obtain ⟨g1, g2, g3, g4, g5⟩ := h3 k hk hk2
    refine ⟨?_, g2, g4, g5⟩
    split
    · omega
    · exact g3 (by omega)
  · rintro ⟨h1, h2⟩
    have h3 := (pairs_from least l (-1)).1 h2
    refine ⟨h3.1, h1, fun k hk hk2 => ?_⟩
    obtain ⟨g1, g2, g3, g4⟩ := h3.2 k hk hk2
    have g5 := pairs_above least l (-1) k h2 hk hk2
    refine ⟨by omega, g2, fun h => ?_, g3, g4⟩
    rwa [if_neg (by omega)] at g1

theorem pairs_even {least : Int} {l : List Int} {lo : Int} (h : Pairs least lo l) : l.length % 2 = 0 := ((pairs_from least l lo).1 h).1

/-- What a key has. -/
def getP (key : Int) : List Int → Option Int
  | a :: b :: r => if a = key then some b else getP key r
  | _ => none

theorem getP_cons (key a b : Int) (r : List Int) : getP key (a :: b :: r) = if a = key then some b else getP key r := rfl

theorem findF_get (key : Int) : ∀ (l : List Int) (k : Nat), (findF key k l = -1 ∧ getP key l = none) ∨ (∃ j, findF key k l = ((k + j : Nat) : Int) ∧ j + 1 < l.length ∧ getP key l = some (l.getD (j + 1) 0) ∧ l.getD j 0 = key)
  | [], _ => .inl ⟨rfl, rfl⟩
  | [_], _ => .inl ⟨rfl, rfl⟩
  | a :: b :: r, k => by
    by_cases h : a = key
    · right
      refine ⟨0, by unfold findF; rw [if_pos h]; rfl, by simp, by unfold getP; rw [if_pos h]; rfl, h⟩
    · rcases findF_get key r (k + 2) with ⟨h1, h2⟩ | ⟨j, h1, h2, h3, h4⟩
      · left
        exact ⟨by unfold findF; rw [if_neg h]; exact h1, by unfold getP; rw [if_neg h]; exact h2⟩
      · right
        refine ⟨j + 2, ?_, by simp; omega, ?_, h4⟩
        · unfold findF
          rw [if_neg h, h1]
          congr 1
          omega
        · unfold getP
          rw [if_neg h, h3]
          rfl

theorem find_none (key : Int) (l : List Int) : findF key 0 l < 0 ↔ getP key l = none := by
  rcases findF_get key l 0 with ⟨h1, h2⟩ | ⟨j, h1, h2, h3, h4⟩
  · rw [h1, h2]
    simp
  · rw [h1, h3]
    simp

theorem had_get (key : Int) (l : List Int) : hadF key l = (getP key l).getD (-1) := by
  unfold hadF
  rcases findF_get key l 0 with ⟨h1, h2⟩ | ⟨j, h1, h2, h3, h4⟩
  · rw [h1, h2, if_neg (by omega)]
    rfl
  · rw [h1, h3, if_pos (by omega)]
    simp

theorem has_get (key : Int) (l : List Int) : hasF key l = (getP key l).getD 0 := by
  unfold hasF
  rcases findF_get key l 0 with ⟨h1, h2⟩ | ⟨j, h1, h2, h3, h4⟩
  · rw [h1, h2, if_neg (by omega)]
    rfl
  · rw [h1, h3, if_pos (by omega)]
    simp

theorem find_bound (key : Int) (l : List Int) : findF key 0 l < l.length := by
  rcases findF_get key l 0 with ⟨h1, _⟩ | ⟨j, h1, h2, _⟩
  · rw [h1]; omega
  · rw [h1]; omega

theorem find_bound1 (key : Int) (l : List Int) (h : 0 ≤ findF key 0 l) : findF key 0 l + 1 < l.length := by
  rcases findF_get key l 0 with ⟨h1, _⟩ | ⟨j, h1, h2, _⟩
  · omega
  · rw [h1]; omega

/-- A key that all keys are above has nothing. -/
theorem getP_above {least : Int} {key : Int} : ∀ {l : List Int} {lo : Int}, Pairs least lo l → key ≤ lo → getP key l = none
  | [], _, _, _ => rfl
  | [_], _, h, _ => by simp [Pairs] at h
  | a :: b :: r, lo, h, hk => by
    unfold Pairs at h
    unfold getP
    rw [if_neg (by omega)]
    exact getP_above h.2.2.2.2 (by omega)

theorem getP_in {least : Int} {key v : Int} : ∀ {l : List Int} {lo : Int}, Pairs least lo l → getP key l = some v → lo < key ∧ key ≤ 255 ∧ least ≤ v ∧ v ≤ 1099511627776
  | [], _, _, h => by simp [getP] at h
  | [_], _, h, _ => by simp [Pairs] at h
  | a :: b :: r, lo, h, hg => by
    unfold Pairs at h
    unfold getP at hg
    by_cases e : a = key
    · rw [if_pos e] at hg
      injection hg with hg
      omega
    · rw [if_neg e] at hg
      have := getP_in h.2.2.2.2 hg
      omega

/-- Pairs behind the place of a key stay. -/
theorem withF_done (key n least : Int) : ∀ (l : List Int) (lo : Int), Pairs least lo l → key ≤ lo → withF key n true l = l
  | [], _, _, _ => rfl
  | [_], _, h, _ => by simp [Pairs] at h
  | a :: b :: r, lo, h, hk => by
    unfold Pairs at h
    unfold withF
    rw [if_neg (by simp), if_pos (by omega), Bool.true_or, withF_done key n least r a h.2.2.2.2 (by omega)]
    rfl

theorem withF_cons (key n least a b : Int) (r : List Int) (lo : Int) (h : Pairs least lo (a :: b :: r)) :
    withF key n false (a :: b :: r) = if key < a then key :: n :: a :: b :: r else if key = a then key :: n :: r else a :: b :: withF key n false r := by
  unfold Pairs at h
  conv => lhs; unfold withF
  by_cases h1 : key < a
  · rw [if_pos h1, if_pos ⟨rfl, by omega⟩, if_pos (by omega), decide_eq_true (by omega), Bool.false_or, withF_done key n least r a h.2.2.2.2 (by omega)]
    rfl
  · rw [if_neg h1]
    by_cases h2 : key = a
    · rw [if_pos h2, if_pos ⟨rfl, by omega⟩, if_neg (by omega), decide_eq_true (by omega), Bool.false_or, withF_done key n least r a h.2.2.2.2 (by omega)]
      rfl
    · rw [if_neg h2, if_neg (by omega), if_pos (by omega), decide_eq_false (by omega), Bool.false_or]
      rfl

theorem withF_pairs (key n least : Int) (hn0 : least ≤ n) (hn1 : n ≤ 1099511627776) (hk : key ≤ 255) : ∀ (l : List Int) (lo : Int), Pairs least lo l → lo < key → Pairs least lo (withF key n false l)
  | [], lo, _, hlo => by
    simp [withF, Pairs]
    omega
  | [_], _, h, _ => by simp [Pairs] at h
  | a :: b :: r, lo, h, hlo => by
    have ih := withF_pairs key n least hn0 hn1 hk r a
    rw [withF_cons key n least a b r lo h]
    unfold Pairs at h
    split
    · unfold Pairs
      refine ⟨hlo, hk, hn0, hn1, ?_⟩
      unfold Pairs
      exact ⟨by assumption, h.2⟩
    · split
      · rename_i e
        subst e
        unfold Pairs
        exact ⟨hlo, hk, hn0, hn1, h.2.2.2.2⟩
      · unfold Pairs
        exact ⟨h.1, h.2.1, h.2.2.1, h.2.2.2.1, ih h.2.2.2.2 (by omega)⟩

theorem withF_len (key n least : Int) : ∀ (l : List Int) (lo : Int), Pairs least lo l → (withF key n false l).length = if getP key l = none then l.length + 2 else l.length
  | [], lo, _ => by simp [withF, getP]
  | [_], _, h => by simp [Pairs] at h
  | a :: b :: r, lo, h => by
    have ih := withF_len key n least r a
    rw [withF_cons key n least a b r lo h]
    unfold Pairs at h
    by_cases h1 : key < a
    · have e : getP key (a :: b :: r) = none := by rw [getP_cons, if_neg (by omega), getP_above h.2.2.2.2 (by omega)]
      rw [if_pos h1, if_pos e]
      simp
    · rw [if_neg h1]
      by_cases h2 : key = a
      · have e : getP key (a :: b :: r) ≠ none := by rw [getP_cons, if_pos h2.symm]; simp
        rw [if_pos h2, if_neg e]
        simp
      · have e : getP key (a :: b :: r) = getP key r := by rw [getP_cons, if_neg (by omega)]
        rw [if_neg h2, e]
        have := ih h.2.2.2.2
        simp only [List.length_cons, this]
        by_cases e2 : getP key r = none
        · rw [if_pos e2, if_pos e2]
        · rw [if_neg e2, if_neg e2]

theorem withF_get (key n least : Int) : ∀ (l : List Int) (lo : Int), Pairs least lo l → ∀ k, getP k (withF key n false l) = if k = key then some n else getP k l
  | [], lo, _, k => by
    simp [withF, getP, eq_comm]
  | [_], _, h, _ => by simp [Pairs] at h
  | a :: b :: r, lo, h, k => by
    have ih := withF_get key n least r a
    rw [withF_cons key n least a b r lo h]
    unfold Pairs at h
    by_cases h1 : key < a
    · rw [if_pos h1]
      by_cases e : k = key
      · subst e
        rw [if_pos rfl, getP, if_pos rfl]
      · rw [if_neg e, getP, if_neg (by omega)]
    · rw [if_neg h1]
      by_cases h2 : key = a
      · rw [if_pos h2]
        subst h2
        by_cases e : k = key
        · subst e
          rw [if_pos rfl, getP, if_pos rfl]
        · rw [if_neg e, getP, if_neg (by omega), getP, if_neg (by omega)]
      · rw [if_neg h2]
        by_cases e : k = key
        · subst e
          rw [if_pos rfl, getP, if_neg (by omega), ih h.2.2.2.2 k, if_pos rfl]
        · rw [if_neg e, getP]
          conv => rhs; rw [getP]
          rw [ih h.2.2.2.2 k, if_neg e]

theorem withoutF_cons (key a b : Int) (r : List Int) : withoutF key (a :: b :: r) = if a ≠ key then a :: b :: withoutF key r else withoutF key r := by
  rw [withoutF]
  split <;> rfl

theorem withoutF_pairs (key least : Int) : ∀ (l : List Int) (lo : Int), Pairs least lo l → Pairs least lo (withoutF key l)
  | [], _, _ => by simp [withoutF, Pairs]
  | [_], _, h => by simp [Pairs] at h
  | a :: b :: r, lo, h => by
    have ih := withoutF_pairs key least r
    rw [withoutF_cons]
    unfold Pairs at h
    split
    · unfold Pairs
      exact ⟨h.1, h.2.1, h.2.2.1, h.2.2.2.1, ih a h.2.2.2.2⟩
    · exact lower (ih a h.2.2.2.2) (by omega)
where
  lower {least lo lo' : Int} : ∀ {l : List Int}, Pairs least lo l → lo' ≤ lo → Pairs least lo' l
  | [], _, _ => trivial
  | [_], h, _ => by simp [Pairs] at h
  | a :: b :: r, h, hl => by
    unfold Pairs at h ⊢
    exact ⟨by omega, h.2⟩

theorem withoutF_length (key : Int) : ∀ (l : List Int), (withoutF key l).length ≤ l.length
  | [] => by simp [withoutF]
  | [_] => by simp [withoutF]
  | a :: b :: r => by
    have ih := withoutF_length key r
    rw [withoutF_cons]
    split <;> simp <;> omega

/-- The sum of what all keys have. -/
def sumP : List Int → Int
  | _ :: b :: r => b + sumP r
  | _ => 0

theorem withF_sum (key n least : Int) : ∀ (l : List Int) (lo : Int), Pairs least lo l → sumP (withF key n false l) = sumP l + n - (getP key l).getD 0
  | [], lo, _ => by simp [withF, getP, sumP]
  | [_], _, h => by simp [Pairs] at h
  | a :: b :: r, lo, h => by
    have ih := withF_sum key n least r a
    rw [withF_cons key n least a b r lo h]
    unfold Pairs at h
    by_cases h1 : key < a
    · rw [if_pos h1, getP, if_neg (by omega), getP_above h.2.2.2.2 (by omega)]
      simp [sumP]
      omega
    · rw [if_neg h1]
      by_cases h2 : key = a
      · rw [if_pos h2, getP, if_pos h2.symm]
        simp [sumP]
        omega
      · rw [if_neg h2, getP, if_neg (by omega), sumP, ih h.2.2.2.2]
        simp [sumP]
        omega

end Go.Proofs.Ytedfacbngefhnaa

/- Objects: what may be may be behind a step; what is sealed stays; moves leave a ledger's sum. -/
namespace Go.Proofs.Ytedfacbngefhnaa

theorem inBounds_iff (l : List Int) : InBounds l ↔ ∀ x ∈ l, -1099511627776 ≤ x ∧ x ≤ 1099511627776 := by
  unfold InBounds
  constructor
  · intro h x hx
    obtain ⟨j, hj, rfl⟩ := List.getElem_of_mem hx
    have := h j hj
    simpa [List.getD, hj] using this
  · intro h j hj
    have := h l[j] (List.getElem_mem hj)
    simpa [List.getD, hj] using this

theorem numsOk_list {kind : Int} {l : List Int} (h4 : kind ≠ 4) (h5 : kind ≠ 5) : NumsOk kind l ↔ l.length ≤ 64 ∧ (kind ≤ 1 → l.length = 1) ∧ InBounds l := by
  unfold NumsOk
  rw [if_neg h4, if_neg h5]

theorem numsOk_4 (l : List Int) : NumsOk 4 l ↔ l.length ≤ 128 ∧ Pairs (-1099511627776) (-1) l := by
  unfold NumsOk
  rw [if_pos rfl]
  exact pairsOk_iff _ _

theorem numsOk_5 (l : List Int) : NumsOk 5 l ↔ l.length ≤ 128 ∧ Pairs 0 (-1) l := by
  unfold NumsOk
  rw [if_neg (by decide), if_pos rfl]
  exact pairsOk_iff _ _

theorem cut_bounds (n : Int) : -1099511627776 ≤ cutZ n ∧ cutZ n ≤ 1099511627776 := cutZ_in n

/-- With another list of numbers a state may be as well. -/
theorem may_with {s : St} (h : MayS s) {L : List Int} (hL : NumsOk s.kind L) : MayS ⟨s.kind, L, s.shut, s.eng⟩ :=
  ⟨h.1, h.2.1, h.2.2.1, h.2.2.2.1, h.2.2.2.2.1, hL⟩

theorem one_may {s : St} (h : MayS s) (hk : s.kind ≤ 1) (o : Opn) : MayS (oneS s o).1 := by
  have h0 := h.2.2.2.1
  have one : ∀ x : Int, NumsOk s.kind [cutZ x] := fun x => (numsOk_list (by omega) (by omega)).2 ⟨by simp, fun _ => rfl, (inBounds_iff _).2 (fun y hy => by rw [List.mem_singleton.1 hy]; exact cutZ_in x)⟩
  unfold oneS
  split
  · exact may_with h (one _)
  split
  · exact may_with h (one _)
  split
  · exact h
  · exact h

theorem list_may {s : St} (h : MayS s) (hk : ¬ s.kind ≤ 1) (hk3 : s.kind ≤ 3) (o : Opn) : MayS (listS s o).1 := by
  have hn := (numsOk_list (by omega) (by omega)).1 h.2.2.2.2.2
  have hb := (inBounds_iff _).1 hn.2.2
  unfold listS
  split
  · split
    · exact h
    · refine may_with h ((numsOk_list (by omega) (by omega)).2 ⟨?_, fun e => absurd e hk, (inBounds_iff _).2 fun x hx => ?_⟩)
      · have := hn.1
        simp
        omega
      · rcases List.mem_append.1 hx with hx | hx
        · exact hb x hx
        · rw [List.mem_singleton.1 hx]; exact cutZ_in _
  split
  · split
    · exact h
    split
    · refine may_with h ((numsOk_list (by omega) (by omega)).2 ⟨?_, fun e => absurd e hk, (inBounds_iff _).2 fun x hx => hb x (List.mem_of_mem_drop hx)⟩)
      have := hn.1
      simp
      omega
    · refine may_with h ((numsOk_list (by omega) (by omega)).2 ⟨?_, fun e => absurd e hk, (inBounds_iff _).2 fun x hx => hb x (List.mem_of_mem_take hx)⟩)
      have := hn.1
      simp
      omega
  split
  · exact h
  · exact h

theorem with_ok {least : Int} {l : List Int} (hl : l.length ≤ 128) (hp : Pairs least (-1) l) {key n : Int} (hk0 : 0 ≤ key) (hk1 : key ≤ 255) (hn0 : least ≤ n) (hn1 : n ≤ 1099511627776) (hf : ¬ (findF key 0 l < 0 ∧ l.length = 128)) :
    (withF key n false l).length ≤ 128 ∧ Pairs least (-1) (withF key n false l) := by
  refine ⟨?_, withF_pairs key n least hn0 hn1 hk1 l (-1) hp (by omega)⟩
  rw [withF_len key n least l (-1) hp]
  have he := pairs_even hp
  rw [find_none] at hf
  split
  · rename_i h
    have : l.length ≠ 128 := fun e => hf ⟨h, e⟩
    omega
  · exact hl

theorem store_may {s : St} (h : MayS s) (hk : s.kind = 4) (o : Opn) : MayS (storeS s o).1 := by
  have hn := h.2.2.2.2.2
  rw [hk, numsOk_4] at hn
  unfold storeS
  split
  · exact h
  split
  · exact h
  split
  · refine may_with h ?_
    rw [hk, numsOk_4]
    refine ⟨?_, withoutF_pairs _ _ _ _ hn.2⟩
    have := withoutF_length o.a s.L
    omega
  split
  · split
    · exact h
    · refine may_with h ?_
      rw [hk, numsOk_4]
      exact with_ok hn.1 hn.2 (by omega) (by omega) (cutZ_in _).1 (cutZ_in _).2 (by assumption)
  · exact h

theorem has_bounds {l : List Int} (hp : Pairs 0 (-1) l) (key : Int) : 0 ≤ hasF key l ∧ hasF key l ≤ 1099511627776 := by
  rw [has_get]
  cases h : getP key l with
  | none => simp
  | some v =>
    have := getP_in hp h
    exact ⟨this.2.2.1, this.2.2.2⟩

/-- What a move that is done makes of a ledger. -/
theorem move_lists {l : List Int} (hl : l.length ≤ 128) (hp : Pairs 0 (-1) l) (fr dst b : Int) (hf0 : 0 ≤ fr) (hf1 : fr ≤ 255) (hd0 : 0 ≤ dst) (hd1 : dst ≤ 255) (hb : 0 ≤ b) (h2 : ¬ (findF fr 0 l < 0 ∨ hasF fr l < b)) (h3 : ¬ fr = dst)
    (h4 : ¬ ((findF dst 0 l < 0 ∧ l.length = 128) ∨ 1099511627776 < hasF dst l + b)) :
    (withF dst (hasF dst l + b) false (withF fr (hasF fr l - b) false l)).length ≤ 128 ∧
    Pairs 0 (-1) (withF dst (hasF dst l + b) false (withF fr (hasF fr l - b) false l)) ∧
    sumP (withF dst (hasF dst l + b) false (withF fr (hasF fr l - b) false l)) = sumP l := by
  have b1 := has_bounds hp fr
  have b2 := has_bounds hp dst
  have hg : getP fr l ≠ none := fun e => h2 (.inl ((find_none _ _).2 e))
  have hle : ¬ hasF fr l < b := fun e => h2 (.inr e)
  have p1 : Pairs 0 (-1) (withF fr (hasF fr l - b) false l) := withF_pairs _ _ _ (by omega) (by omega) hf1 _ _ hp (by omega)
  have l1 : (withF fr (hasF fr l - b) false l).length = l.length := by rw [withF_len _ _ _ _ _ hp, if_neg hg]
  have s1 := withF_sum fr (hasF fr l - b) 0 l (-1) hp
  have g1 : getP dst (withF fr (hasF fr l - b) false l) = getP dst l := by rw [withF_get _ _ _ _ _ hp, if_neg (fun e => h3 e.symm)]
  have l2 := withF_len dst (hasF dst l + b) 0 _ (-1) p1
  have s2 := withF_sum dst (hasF dst l + b) 0 _ (-1) p1
  rw [g1, l1] at l2
  rw [g1, s1, ← has_get, ← has_get] at s2
  refine ⟨?_, withF_pairs _ _ _ (by omega) (by omega) hd1 _ _ p1 (by omega), by rw [s2]; omega⟩
  rw [l2]
  have he := pairs_even hp
  split
  · rename_i h
    have : l.length ≠ 128 := fun e => h4 (.inl ⟨(find_none _ _).2 h, e⟩)
    omega
  · exact hl

theorem move_may {s : St} (h : MayS s) (hk : s.kind = 5) (o : Opn) : MayS (moveS s o).1 ∧ sumP (moveS s o).1.L = sumP s.L ∧ ((moveS s o).2 ≠ 1 → (moveS s o).1 = s) ∧ (moveS s o).1.kind = s.kind ∧ (moveS s o).1.shut = s.shut := by
  have hn := h.2.2.2.2.2
  rw [hk, numsOk_5] at hn
  unfold moveS
  split
  · exact ⟨h, rfl, fun _ => rfl, rfl, rfl⟩
  split
  · exact ⟨h, rfl, fun _ => rfl, rfl, rfl⟩
  split
  · exact ⟨h, rfl, fun _ => rfl, rfl, rfl⟩
  split
  · exact ⟨h, rfl, fun _ => rfl, rfl, rfl⟩
  · have := move_lists hn.1 hn.2 (o.a / 256) (o.a % 256) o.b (by omega) (by omega) (by omega) (by omega) (by omega) (by assumption) (by assumption) (by assumption)
    refine ⟨may_with h ?_, this.2.2, fun e => absurd rfl e, rfl, rfl⟩
    rw [hk, numsOk_5]
    exact ⟨this.1, this.2.1⟩

theorem ledger_may {s : St} (h : MayS s) (hk : s.kind = 5) (o : Opn) : MayS (ledgerS s o).1 := by
  have hn := h.2.2.2.2.2
  rw [hk, numsOk_5] at hn
  unfold ledgerS
  split
  · exact (move_may h hk o).1
  split
  · exact h
  split
  · exact h
  split
  · exact h
  split
  · exact h
  split
  · exact h
  · refine may_with h ?_
    rw [hk, numsOk_5]
    have b1 := has_bounds hn.2 o.a
    have b2 := cutZ_in o.b
    have b3 : 0 ≤ cutZ o.b := by
      unfold cutZ
      split
      · omega
      · split <;> omega
    have b4 : 0 ≤ cutZ (hasF o.a s.L + cutZ o.b) := by
      unfold cutZ
      split
      · have := b3; unfold cutZ at this; omega
      · split
        · omega
        · have := b3; unfold cutZ at this; omega
    exact with_ok hn.1 hn.2 (by omega) (by omega) b4 (cutZ_in _).2 (by assumption)

theorem one_kind (s : St) (o : Opn) : (oneS s o).1.kind = s.kind ∧ (oneS s o).1.shut = s.shut ∧ (oneS s o).1.eng = s.eng := by
  unfold oneS
  repeat' split
  all_goals exact ⟨rfl, rfl, rfl⟩

theorem list_kind (s : St) (o : Opn) : (listS s o).1.kind = s.kind ∧ (listS s o).1.shut = s.shut ∧ (listS s o).1.eng = s.eng := by
  unfold listS
  repeat' split
  all_goals exact ⟨rfl, rfl, rfl⟩

theorem store_kind (s : St) (o : Opn) : (storeS s o).1.kind = s.kind ∧ (storeS s o).1.shut = s.shut ∧ (storeS s o).1.eng = s.eng := by
  unfold storeS
  repeat' split
  all_goals exact ⟨rfl, rfl, rfl⟩

theorem ledger_kind (s : St) (o : Opn) : (ledgerS s o).1.kind = s.kind ∧ (ledgerS s o).1.shut = s.shut ∧ (ledgerS s o).1.eng = s.eng := by
  unfold ledgerS moveS
  repeat' split
  all_goals exact ⟨rfl, rfl, rfl⟩

theorem step_shut {s : St} (h : MayS s) (hs : s.shut = true) (o : Opn) : stepS s o = (s, -1125899906842624) := by
  unfold stepS
  rw [if_neg (fun e => e h), if_pos hs]

theorem step_seal {s : St} (h : MayS s) (hs : s.shut = false) (o : Opn) (hc : o.code = 10) : stepS s o = (⟨s.kind, s.L, true, if 0 ≤ o.a ∧ o.a ≤ 2 then o.a else s.eng⟩, 0) := by
  unfold stepS
  rw [if_neg (fun e => e h), if_neg (by simp [hs]), if_pos hc]

theorem step_not {s : St} (h : ¬ MayS s) (o : Opn) : stepS s o = (s, 0) := by
  unfold stepS
  rw [if_pos h]

theorem step_open {s : St} (h : MayS s) (hs : s.shut = false) (o : Opn) (hc : o.code ≠ 10) : stepS s o = if s.kind ≤ 1 then oneS s o else if s.kind ≤ 3 then listS s o else if s.kind = 4 then storeS s o else ledgerS s o := by
  unfold stepS
  rw [if_neg (fun e => e h), if_neg (by simp [hs]), if_neg hc]

theorem step_kind (s : St) (o : Opn) : (stepS s o).1.kind = s.kind := by
  unfold stepS
  split
  · rfl
  split
  · rfl
  split
  · rfl
  split
  · exact (one_kind s o).1
  split
  · exact (list_kind s o).1
  split
  · exact (store_kind s o).1
  · exact (ledger_kind s o).1

theorem step_shut' {s : St} (h : MayS s) (o : Opn) : (stepS s o).1.shut = (s.shut || decide (o.code = 10)) := by
  by_cases hs : s.shut = true
  · rw [step_shut h hs, hs]
    rfl
  · have hs' : s.shut = false := by simpa using hs
    by_cases hc : o.code = 10
    · rw [step_seal h hs' o hc, decide_eq_true hc]
      simp
    · rw [step_open h hs' o hc, decide_eq_false hc, hs']
      split
      · rw [(one_kind s o).2.1, hs']; rfl
      split
      · rw [(list_kind s o).2.1, hs']; rfl
      split
      · rw [(store_kind s o).2.1, hs']; rfl
      · rw [(ledger_kind s o).2.1, hs']; rfl

/-- What may be may be behind a step. -/
theorem step_may {s : St} (h : MayS s) (o : Opn) : MayS (stepS s o).1 := by
  by_cases hs : s.shut = true
  · rw [step_shut h hs]
    exact h
  · have hs' : s.shut = false := by simpa using hs
    by_cases hc : o.code = 10
    · rw [step_seal h hs' o hc]
      refine ⟨?_, ?_, (fun e => by cases e), h.2.2.2.1, h.2.2.2.2.1, h.2.2.2.2.2⟩
      · show 0 ≤ (if 0 ≤ o.a ∧ o.a ≤ 2 then o.a else s.eng)
        have := h.1
        split <;> omega
      · show (if 0 ≤ o.a ∧ o.a ≤ 2 then o.a else s.eng) ≤ 2
        have := h.2.1
        split <;> omega
    · rw [step_open h hs' o hc]
      have h0 := h.2.2.2.1
      have h5 := h.2.2.2.2.1
      split
      · exact one_may h (by assumption) o
      split
      · exact list_may h (by assumption) (by assumption) o
      split
      · exact store_may h (by assumption) o
      · exact ledger_may h (by omega) o

/-- A move leaves a ledger's sum; one that does not respond 1 changes nothing. -/
theorem step_move {s : St} (h : MayS s) (hk : s.kind = 5) (o : Opn) (hc : o.code = 9) : sumP (stepS s o).1.L = sumP s.L ∧ ((stepS s o).2 ≠ 1 → (stepS s o).1 = s) := by
  by_cases hs : s.shut = true
  · rw [step_shut h hs]
    exact ⟨rfl, fun _ => rfl⟩
  · have hs' : s.shut = false := by simpa using hs
    rw [step_open h hs' o (by omega), if_neg (by omega), if_neg (by omega), if_neg (by omega)]
    unfold ledgerS
    rw [if_pos hc]
    exact ⟨(move_may h hk o).2.1, (move_may h hk o).2.2.1⟩

end Go.Proofs.Ytedfacbngefhnaa

/- Objects: where a key's pair stands; what the landed step makes of a state. -/
namespace Go.Proofs.Ytedfacbngefhnaa

/-- Where a key's pair stands, or would stand. -/
def placeP (key : Int) : List Int → Nat
  | a :: _ :: r => if key ≤ a then 0 else placeP key r + 2
  | _ => 0

/-- A key has a pair. -/
def hitP (key : Int) (l : List Int) : Bool := (getP key l).isSome

theorem placeP_le (key : Int) : ∀ (l : List Int), l.length % 2 = 0 → placeP key l ≤ l.length ∧ placeP key l % 2 = 0
  | [], _ => ⟨Nat.le_refl _, rfl⟩
  | [_], h => by simp at h
  | a :: b :: r, h => by
    have ih := placeP_le key r (by simp at h; omega)
    unfold placeP
    split
    · simp
    · simp
      omega

/-- Ahead of the place all keys are less. -/
theorem placeP_drop (key : Int) : ∀ (l : List Int) (k : Nat), l.length % 2 = 0 → k % 2 = 0 → k ≤ l.length → (∀ j, j < k → j % 2 = 0 → l.getD j 0 < key) → placeP key l = k + placeP key (l.drop k)
  | [], k, _, _, hk, _ => by
    have : k = 0 := by simpa using hk
    subst this
    rfl
  | [_], _, h, _, _, _ => by simp at h
  | a :: b :: r, k, h, hk2, hk, hall => by
    by_cases h0 : k = 0
    · subst h0
      simp
    · obtain ⟨j, rfl⟩ : ∃ j, k = j + 2 := ⟨k - 2, by omega⟩
      have h1 := hall 0 (by omega) rfl
      have h1' : a < key := h1
      have ih := placeP_drop key r j (by simp at h; omega) (by omega) (by simp at hk; omega) (fun i hi hi2 => by
        have := hall (i + 2) (by omega) (by omega)
        exact this)
      conv => lhs; unfold placeP
      rw [if_neg (by omega), ih]
      show j + placeP key (r.drop j) + 2 = j + 2 + placeP key (r.drop j)
      omega

theorem placeP_stop (key : Int) (l : List Int) (k : Nat) (hk : k + 1 < l.length) (h : key ≤ l.getD k 0) : placeP key (l.drop k) = 0 := by
  rw [drop_pair l k hk, placeP, if_pos h]

theorem placeP_hit (key least : Int) : ∀ (l : List Int) (lo : Int), Pairs least lo l → hitP key l = decide (placeP key l < l.length ∧ l.getD (placeP key l) 0 = key) ∧ (hitP key l = true → getP key l = some (l.getD (placeP key l + 1) 0) ∧ placeP key l + 1 < l.length)
  | [], lo, _ => by simp [hitP, getP, placeP]
  | [_], lo, h => by simp [Pairs] at h
  | a :: b :: r, lo, h => by
    have hg := getP_above (least := least) (key := key) (l := r) (lo := a)
    unfold Pairs at h
    have ih := placeP_hit key least r a h.2.2.2.2
    by_cases h1 : key ≤ a
    · have e : placeP key (a :: b :: r) = 0 := by unfold placeP; rw [if_pos h1]
      rw [e]
      by_cases h2 : a = key
      · have e2 : getP key (a :: b :: r) = some b := by rw [getP_cons, if_pos h2]
        unfold hitP
        rw [e2]
        simp [h2]
      · have e2 : getP key (a :: b :: r) = none := by rw [getP_cons, if_neg h2, hg h.2.2.2.2 h1]
        unfold hitP
        rw [e2]
        simp [h2]
    · have e : placeP key (a :: b :: r) = placeP key r + 2 := by rw [placeP, if_neg h1]
      have e2 : getP key (a :: b :: r) = getP key r := by rw [getP_cons, if_neg (by omega)]
      have e3 : hitP key (a :: b :: r) = hitP key r := by unfold hitP; rw [e2]
      rw [e, e2, e3]
      refine ⟨?_, fun hh => ?_⟩
      · rw [ih.1]
        have e4 : (a :: b :: r).getD (placeP key r + 2) 0 = r.getD (placeP key r) 0 := rfl
        rw [e4]
        apply decide_eq_decide.2
        simp
      · have := ih.2 hh
        refine ⟨this.1, ?_⟩
        simp
        omega

theorem withF_insert (key n least : Int) : ∀ (l : List Int) (lo : Int), Pairs least lo l → hitP key l = false → withF key n false l = l.take (placeP key l) ++ ([key, n] ++ l.drop (placeP key l))
  | [], lo, _, _ => by simp [withF, placeP]
  | [_], lo, h, _ => by simp [Pairs] at h
  | a :: b :: r, lo, h, hm => by
    rw [withF_cons key n least a b r lo h]
    unfold Pairs at h
    have ih := withF_insert key n least r a h.2.2.2.2
    unfold hitP at hm
    rw [getP_cons] at hm
    by_cases h2 : a = key
    · rw [if_pos h2] at hm
      simp at hm
    · rw [if_neg h2] at hm
      by_cases h1 : key < a
      · rw [if_pos h1, placeP, if_pos (by omega)]
        rfl
      · rw [if_neg h1, if_neg (by omega), ih hm, placeP, if_neg (by omega)]
        rfl

theorem withF_set (key n least : Int) : ∀ (l : List Int) (lo : Int), Pairs least lo l → hitP key l = true → withF key n false l = l.set (placeP key l + 1) n
  | [], lo, _, h => by simp [hitP, getP] at h
  | [_], lo, h, _ => by simp [Pairs] at h
  | a :: b :: r, lo, h, hm => by
    rw [withF_cons key n least a b r lo h]
    have hg := getP_above (least := least) (key := key) (l := r) (lo := a)
    unfold Pairs at h
    have ih := withF_set key n least r a h.2.2.2.2
    unfold hitP at hm
    rw [getP_cons] at hm
    by_cases h2 : a = key
    · rw [if_neg (by omega), if_pos h2.symm, placeP, if_pos (by omega), h2]
      rfl
    · rw [if_neg h2] at hm
      by_cases h1 : key < a
      · rw [hg h.2.2.2.2 (by omega)] at hm
        simp at hm
      · rw [if_neg h1, if_neg (by omega), ih hm, placeP, if_neg (by omega)]
        rfl

theorem withoutF_above {least key : Int} : ∀ {l : List Int} {lo : Int}, Pairs least lo l → key ≤ lo → withoutF key l = l
  | [], _, _, _ => rfl
  | [_], _, h, _ => by simp [Pairs] at h
  | a :: b :: r, lo, h, hk => by
    unfold Pairs at h
    rw [withoutF_cons, if_pos (by omega), withoutF_above h.2.2.2.2 (by omega)]

theorem withoutF_not (key least : Int) : ∀ (l : List Int) (lo : Int), Pairs least lo l → hitP key l = false → withoutF key l = l
  | [], lo, _, _ => rfl
  | [_], lo, h, _ => by simp [Pairs] at h
  | a :: b :: r, lo, h, hm => by
    unfold Pairs at h
    have ih := withoutF_not key least r a h.2.2.2.2
    unfold hitP at hm
    rw [getP_cons] at hm
    by_cases h2 : a = key
    · rw [if_pos h2] at hm
      simp at hm
    · rw [if_neg h2] at hm
      rw [withoutF_cons, if_pos h2, ih hm]

theorem withoutF_cut (key least : Int) : ∀ (l : List Int) (lo : Int), Pairs least lo l → hitP key l = true → withoutF key l = l.take (placeP key l) ++ l.drop (placeP key l + 2)
  | [], lo, _, h => by simp [hitP, getP] at h
  | [_], lo, h, _ => by simp [Pairs] at h
  | a :: b :: r, lo, h, hm => by
    have hg := getP_above (least := least) (key := key) (l := r) (lo := a)
    unfold Pairs at h
    have ih := withoutF_cut key least r a h.2.2.2.2
    unfold hitP at hm
    rw [getP_cons] at hm
    rw [withoutF_cons]
    by_cases h2 : a = key
    · rw [if_neg (by omega), placeP, if_pos (by omega), withoutF_above h.2.2.2.2 (by omega)]
      rfl
    · rw [if_neg h2] at hm
      rw [if_pos h2]
      by_cases h1 : key ≤ a
      · rw [hg h.2.2.2.2 h1] at hm
        simp at hm
      · rw [ih hm, placeP, if_neg h1]
        rfl

/-- A store's step, as it landed: a key that may not be is told first. -/
def storeO (s : St) (o : Opn) : St × Int :=
  if o.a < 0 ∨ 255 < o.a then (s, -1) else
  if o.code ≠ 7 ∧ o.code ≠ 6 ∧ o.code ≠ 5 then (s, 0) else
  if o.code = 6 then (⟨s.kind, withoutF o.a s.L, s.shut, s.eng⟩, hadF o.a s.L) else
  if o.code = 5 then (if findF o.a 0 s.L < 0 ∧ s.L.length = 128 then (s, -2) else (⟨s.kind, withF o.a (cutZ o.b) false s.L, s.shut, s.eng⟩, hadF o.a s.L)) else
  (s, hadF o.a s.L)

/-- A state behind an operation, and what came of it, as it landed. -/
def stepO (s : St) (o : Opn) : St × Int :=
  if ¬ MayS s then (s, 0) else
  if s.shut = true then (s, -1125899906842624) else
  if o.code = 10 then (⟨s.kind, s.L, true, if 0 ≤ o.a ∧ o.a ≤ 2 then o.a else s.eng⟩, 0) else
  if s.kind ≤ 1 then oneS s o else if s.kind ≤ 3 then listS s o else if s.kind = 4 then storeO s o else ledgerS s o

/-- The state is what the document's step makes of it. -/
theorem storeO_state (s : St) (o : Opn) : (storeO s o).1 = (storeS s o).1 := by
  unfold storeO storeS
  by_cases h1 : o.a < 0 ∨ 255 < o.a
  · rw [if_pos h1]
    split
    · rfl
    · first | rfl | (rw [if_pos h1])
  · rw [if_neg h1, if_neg h1]

theorem stepO_state (s : St) (o : Opn) : (stepO s o).1 = (stepS s o).1 := by
  unfold stepO stepS
  split
  · rfl
  split
  · rfl
  split
  · rfl
  split
  · rfl
  split
  · rfl
  split
  · exact storeO_state s o
  · rfl

/-- So is the answer, but for operations that a store does not know, on what is no key. -/
theorem stepO_eq (s : St) (o : Opn) (h : s.kind ≠ 4 ∨ s.shut = true ∨ o.code = 10 ∨ o.code = 5 ∨ o.code = 6 ∨ o.code = 7 ∨ (0 ≤ o.a ∧ o.a ≤ 255)) : stepO s o = stepS s o := by
  unfold stepO stepS
  split
  · rfl
  split
  · rfl
  split
  · rfl
  split
  · rfl
  split
  · rfl
  split
  · rename_i hm hs hc _ _ hk
    unfold storeO storeS
    rcases h with h | h | h | h | h | h | h
    · exact absurd hk h
    · exact absurd h hs
    · exact absurd h hc
    · rw [if_neg (show ¬ (o.code ≠ 7 ∧ o.code ≠ 6 ∧ o.code ≠ 5) by omega), if_neg (show ¬ (o.code ≠ 7 ∧ o.code ≠ 6 ∧ o.code ≠ 5) by omega)]
    · rw [if_neg (show ¬ (o.code ≠ 7 ∧ o.code ≠ 6 ∧ o.code ≠ 5) by omega), if_neg (show ¬ (o.code ≠ 7 ∧ o.code ≠ 6 ∧ o.code ≠ 5) by omega)]
    · rw [if_neg (show ¬ (o.code ≠ 7 ∧ o.code ≠ 6 ∧ o.code ≠ 5) by omega), if_neg (show ¬ (o.code ≠ 7 ∧ o.code ≠ 6 ∧ o.code ≠ 5) by omega)]
    · rw [if_neg (show ¬ (o.a < 0 ∨ 255 < o.a) by omega), if_neg (show ¬ (o.a < 0 ∨ 255 < o.a) by omega)]
  · rfl

theorem stepO_not {s : St} (h : ¬ MayS s) (o : Opn) : stepO s o = (s, 0) := by
  unfold stepO
  rw [if_pos h]

theorem stepO_shut {s : St} (h : MayS s) (hs : s.shut = true) (o : Opn) : stepO s o = (s, -1125899906842624) := by
  unfold stepO
  rw [if_neg (fun e => e h), if_pos hs]

theorem stepO_may {s : St} (h : MayS s) (o : Opn) : MayS (stepO s o).1 := by rw [stepO_state]; exact step_may h o
theorem stepO_kind (s : St) (o : Opn) : (stepO s o).1.kind = s.kind := by rw [stepO_state]; exact step_kind s o
theorem stepO_shut' {s : St} (h : MayS s) (o : Opn) : (stepO s o).1.shut = (s.shut || decide (o.code = 10)) := by rw [stepO_state]; exact step_shut' h o

/-- A state behind operations, and what came of each, as it landed. -/
def foldO : St → List Opn → St × List Int
  | s, [] => (s, [])
  | s, o :: r => ((foldO (stepO s o).1 r).1, (stepO s o).2 :: (foldO (stepO s o).1 r).2)

theorem foldO_snoc : ∀ (l : List Opn) (s : St) (o : Opn), foldO s (l ++ [o]) = ((stepO (foldO s l).1 o).1, (foldO s l).2 ++ [(stepO (foldO s l).1 o).2])
  | [], _, _ => rfl
  | p :: r, s, o => by
    rw [List.cons_append, foldO, foldO_snoc r (stepO s p).1 o, foldO]
    rfl

end Go.Proofs.Ytedfacbngefhnaa

/- Plain mathematics of layer num: groups of seven bits as lists of bytes, zigzag, fixed bytes. No program is named here. -/
namespace Go.Proofs.Ytedfacbngefhnaa

/-- The number that groups spell, the lowest first. -/
def val : List UInt8 → Nat
  | [] => 0
  | c :: r => c.toNat % 128 + 128 * val r

/-- The number whose groups the list begins with (at most n of them), and how many they are. -/
def dec : Nat → List UInt8 → Option (Nat × Nat)
  | 0, _ => none
  | _ + 1, [] => none
  | n + 1, c :: r => if c.toNat < 128 then some (c.toNat, 1) else
    match dec n r with
    | some (v + 1, k) => some (c.toNat % 128 + 128 * (v + 1), k + 1)
    | _ => none

/-- The number of 64 bits whose groups the list begins with, and how many they are; 0 and 0: none. -/
def dec64 (l : List UInt8) : Nat × Nat :=
  match dec 10 l with
  | some (v, k) => if v < 18446744073709551616 then (v, k) else (0, 0)
  | none => (0, 0)

/-- The number below 2^62. -/
def dec62 (l : List UInt8) : Nat × Nat := if (dec64 l).1 < 4611686018427387904 then dec64 l else (0, 0)

theorem val_lt : ∀ l : List UInt8, val l < 128 ^ l.length
  | [] => by simp [val]
  | c :: r => by
    have h := val_lt r
    simp only [val, List.length_cons, Nat.pow_succ]
    omega

theorem val_snoc : ∀ (l : List UInt8) (c : UInt8), val (l ++ [c]) = val l + c.toNat % 128 * 128 ^ l.length
  | [], c => by simp [val]
  | d :: r, c => by
    have h := val_snoc r c
    simp only [List.cons_append, val, List.length_cons, Nat.pow_succ, h]
    rw [Nat.mul_add, ← Nat.mul_assoc, Nat.mul_comm 128 (c.toNat % 128), Nat.mul_assoc, Nat.mul_comm 128 (128 ^ r.length)]
    omega

theorem take_snoc (l : List UInt8) (k : Nat) (h : k < l.length) : l.take (k + 1) = l.take k ++ [l.getD k 0] := by
  rw [List.take_succ_eq_append_getElem h]
  simp [List.getD, h]

theorem val_take (l : List UInt8) (k : Nat) (h : k < l.length) : val (l.take (k + 1)) = val (l.take k) + (l.getD k 0).toNat % 128 * 128 ^ k := by
  rw [take_snoc l k h, val_snoc, List.length_take, Nat.min_eq_left (by omega)]

/-- The first group below 128 is the one with number k: what is decoded. -/
theorem dec_hit : ∀ (k n : Nat) (l : List UInt8), k < n → k < l.length → (∀ j, j < k → 128 ≤ (l.getD j 0).toNat) → (l.getD k 0).toNat < 128 →
    dec n l = if 0 < k ∧ (l.getD k 0).toNat = 0 then none else some (val (l.take (k + 1)), k + 1)
  | 0, n + 1, c :: r, _, _, _, h => by
    have hc : c.toNat < 128 := by simpa using h
    simp only [dec, hc, if_true]
    simp [val]
    omega
  | k + 1, n + 1, c :: r, hn, hl, hj, h => by
    have h0 : 128 ≤ c.toNat := by simpa using hj 0 (by omega)
    have ih := dec_hit k n r (by omega) (by simpa using hl) (fun j hjk => by simpa using hj (j + 1) (by omega)) (by simpa using h)
    have hlast : ((c :: r).getD (k + 1) 0) = r.getD k 0 := by simp
    simp only [dec]
    rw [if_neg (show ¬ c.toNat < 128 by omega), hlast]
    have hlt : k < r.length := by simpa using hl
    have hm : (r.getD k 0).toNat % 128 = (r.getD k 0).toNat := Nat.mod_eq_of_lt (by simpa using h)
    by_cases hz : (r.getD k 0).toNat = 0
    · rw [if_pos ⟨Nat.succ_pos k, hz⟩]
      have hR : dec n r = none ∨ dec n r = some (0, 1) := by
        by_cases hk : 0 < k
        · exact .inl (by rw [ih, if_pos ⟨hk, hz⟩])
        · obtain rfl : k = 0 := by omega
          have hv : val (r.take (0 + 1)) = 0 := by
            rw [val_take r 0 hlt, hz]
            simp [val]
          exact .inr (by rw [ih, if_neg (fun e => hk e.1), hv])
      rcases hR with e | e <;> rw [e]
    · have hv : 0 < val (r.take (k + 1)) := by
        rw [val_take r k hlt, hm]
        have h1 : 0 < 128 ^ k := Nat.pow_pos (by decide)
        have h2 : 0 < (r.getD k 0).toNat * 128 ^ k := Nat.mul_pos (by omega) h1
        omega
      obtain ⟨m, hm'⟩ : ∃ m, val (r.take (k + 1)) = m + 1 := ⟨val (r.take (k + 1)) - 1, by omega⟩
      have e : dec n r = some (m + 1, k + 1) := by rw [ih, if_neg (fun e => hz e.2), hm']
      rw [e, if_neg (fun e => hz e.2)]
      simp only [List.take_succ_cons, val, hm']

/-- No group below 128 among the first n. -/
theorem dec_miss : ∀ (n : Nat) (l : List UInt8), (∀ j, j < n → j < l.length → 128 ≤ (l.getD j 0).toNat) → dec n l = none
  | 0, _, _ => rfl
  | n + 1, [], _ => rfl
  | n + 1, c :: r, h => by
    have h0 : 128 ≤ c.toNat := by simpa using h 0 (by omega) (by simp)
    have ih := dec_miss n r (fun j hn hl => by simpa using h (j + 1) (by omega) (by simpa using hl))
    simp only [dec]
    rw [if_neg (by omega), ih]

/-- What was put is got again, whatever stands behind it. -/
theorem dec_uvarint : ∀ (n u : Nat) (t : List UInt8), (Lib.uvarint u).length ≤ n → dec n (Lib.uvarint u ++ t) = some (u, (Lib.uvarint u).length)
  | 0, u, _, h => by have := Lib.uvarint_pos u; omega
  | n + 1, u, t, h => by
    by_cases hu : u < 128
    · rw [Lib.uvarint_small hu]
      have e : (u.toUInt8).toNat = u := Lib.toUInt8_toNat (by omega)
      simp only [List.cons_append, dec, e, hu, if_true]
      simp
    · rw [Lib.uvarint_big (by omega)] at h ⊢
      have e : ((u % 128 + 128).toUInt8).toNat = u % 128 + 128 := Lib.toUInt8_toNat (by omega)
      have ih := dec_uvarint n (u / 128) t (by simpa using h)
      obtain ⟨m, hm⟩ : ∃ m, u / 128 = m + 1 := ⟨u / 128 - 1, by omega⟩
      rw [hm] at ih ⊢
      simp only [List.cons_append, dec, e]
      rw [if_neg (by omega), ih]
      simp only [List.length_cons, Option.some.injEq, Prod.mk.injEq, and_true]
      omega

/-- What is decoded is put as just these bytes. -/
theorem dec_sound : ∀ (n : Nat) (l : List UInt8) (v k : Nat), dec n l = some (v, k) → k ≤ l.length ∧ 1 ≤ k ∧ l.take k = Lib.uvarint v
  | 0, _, _, _, h => by simp [dec] at h
  | n + 1, [], _, _, h => by simp [dec] at h
  | n + 1, c :: r, v, k, h => by
    simp only [dec] at h
    by_cases hc : c.toNat < 128
    · rw [if_pos hc] at h
      simp only [Option.some.injEq, Prod.mk.injEq] at h
      obtain ⟨rfl, rfl⟩ := h
      refine ⟨by simp, by omega, ?_⟩
      rw [Lib.uvarint_small hc]
      simp
    · rw [if_neg hc] at h
      cases hd : dec n r with
      | none => rw [hd] at h; simp at h
      | some p =>
        obtain ⟨v', k'⟩ := p
        rw [hd] at h
        cases v' with
        | zero => simp at h
        | succ m =>
          simp only [Option.some.injEq, Prod.mk.injEq] at h
          obtain ⟨rfl, rfl⟩ := h
          have ih := dec_sound n r (m + 1) k' hd
          have hb := c.toNat_lt
          refine ⟨by simpa using ih.1, by omega, ?_⟩
          rw [Lib.uvarint_big (by omega), List.take_succ_cons, ih.2.2]
          have e1 : (c.toNat % 128 + 128 * (m + 1)) % 128 + 128 = c.toNat := by omega
          have e2 : (c.toNat % 128 + 128 * (m + 1)) / 128 = m + 1 := by omega
          rw [e1, e2]
          simp

theorem dec_pos (n : Nat) (l : List UInt8) (v k : Nat) (h : dec n l = some (v, k)) : 1 ≤ k := (dec_sound n l v k h).2.1

theorem dec64_uvarint (u : Nat) (t : List UInt8) (h : u < 18446744073709551616) : dec64 (Lib.uvarint u ++ t) = (u, (Lib.uvarint u).length) := by
  unfold dec64
  rw [dec_uvarint 10 u t (Lib.uvarint_length64 h)]
  simp [h]

theorem dec62_uvarint (u : Nat) (t : List UInt8) (h : u < 4611686018427387904) : dec62 (Lib.uvarint u ++ t) = (u, (Lib.uvarint u).length) := by
  unfold dec62
  rw [dec64_uvarint u t (by omega)]
  simp [h]

theorem dec64_cases (l : List UInt8) : dec64 l = (0, 0) ∨ ((dec64 l).1 < 18446744073709551616 ∧ 1 ≤ (dec64 l).2 ∧ (dec64 l).2 ≤ l.length ∧ l.take (dec64 l).2 = Lib.uvarint (dec64 l).1) := by
  unfold dec64
  cases h : dec 10 l with
  | none => exact .inl rfl
  | some p =>
    obtain ⟨v, k⟩ := p
    have hs := dec_sound 10 l v k h
    by_cases hv : v < 18446744073709551616
    · simp only [hv, if_true]
      exact .inr ⟨trivial, hs.2.1, hs.1, hs.2.2⟩
    · simp only [hv, if_false]
      exact .inl trivial

theorem dec64_lt (l : List UInt8) : (dec64 l).1 < 18446744073709551616 := by
  rcases dec64_cases l with h | h
  · rw [h]; decide
  · exact h.1

theorem dec64_le (l : List UInt8) : (dec64 l).2 ≤ l.length := by
  rcases dec64_cases l with h | h
  · rw [h]; exact Nat.zero_le _
  · exact h.2.2.1

theorem dec62_cases (l : List UInt8) : dec62 l = (0, 0) ∨ ((dec62 l).1 < 4611686018427387904 ∧ 1 ≤ (dec62 l).2 ∧ (dec62 l).2 ≤ l.length ∧ l.take (dec62 l).2 = Lib.uvarint (dec62 l).1) := by
  unfold dec62
  by_cases h : (dec64 l).1 < 4611686018427387904
  · rw [if_pos h]
    rcases dec64_cases l with e | e
    · exact .inl e
    · exact .inr ⟨h, e.2⟩
  · rw [if_neg h]
    exact .inl rfl

/-- Neither of two numbers' bytes begin the other's. -/
theorem uvarint_apart (u v : Nat) (t : List UInt8) (hu : u < 18446744073709551616) (h : Lib.uvarint v = Lib.uvarint u ++ t) (hv : v < 18446744073709551616) : u = v := by
  have e1 := dec64_uvarint u t hu
  have e2 := dec64_uvarint v [] hv
  rw [List.append_nil, h, e1] at e2
  exact congrArg Prod.fst e2

/-- 2^(7 k) as a power of 128. -/
theorem pow7 (k : Nat) : 2 ^ (7 * k) = 128 ^ k := by rw [Nat.pow_mul]

theorem uvarint_open : ∀ (n u j : Nat), (Lib.uvarint u).length ≤ n → j + 1 < (Lib.uvarint u).length → 128 ≤ ((Lib.uvarint u).getD j 0).toNat
  | 0, u, _, h, _ => by have := Lib.uvarint_pos u; omega
  | n + 1, u, j, h, hj => by
    by_cases hu : u < 128
    · rw [Lib.uvarint_small hu] at hj
      simp at hj
    · rw [Lib.uvarint_big (by omega)] at h hj ⊢
      cases j with
      | zero =>
        have e : ((u % 128 + 128).toUInt8).toNat = u % 128 + 128 := Lib.toUInt8_toNat (by omega)
        simp only [List.getD_cons_zero, e]
        omega
      | succ j =>
        simp only [List.length_cons] at h hj
        simp only [List.getD_cons_succ]
        exact uvarint_open n (u / 128) j (by omega) (by omega)

end Go.Proofs.Ytedfacbngefhnaa

/- Slices of bytes in memory: what one reads ('Rd'), what a call owns ('Own'), and how both last while other calls make memory. -/
namespace Go.Proofs.Ytedfacbngefhnaa
open Go.RowKit

/-- The slice value v reads, in the world w, as the bytes l. -/
def Rd (w : World) (v : Value) (l : List UInt8) : Prop :=
  ∃ ao cap, v = .slice ao l.length cap ∧ l.length ≤ cap ∧ cap ≤ maxLen ∧ (ao = none → cap = 0) ∧
    (l = [] ∨ ∃ b off, ao = some ⟨b, off, none⟩ ∧ ∀ j, j < l.length → w.cell? ⟨b, off + j, none⟩ = some (.int .u8 (l.getD j 0).toNat))

/-- The slice value v lies at the head of a row of its own, from block B on, that holds the bytes l. -/
def Own (w : World) (B : Nat) (v : Value) (l : List UInt8) : Prop := w.ownsRow B 5 1 v l.length (Lib.byteCells l)

set_option maxRecDepth 100000 in
theorem byteCells_length (l : List UInt8) : (Lib.byteCells l).length = l.length := by simp [Lib.byteCells]

set_option maxRecDepth 100000 in
theorem byteCells_get (l : List UInt8) (j : Nat) (h : j < l.length) : (Lib.byteCells l)[j]? = some (.int .u8 (l.getD j 0).toNat) := by
  simp [Lib.byteCells, List.getD, h]

set_option maxRecDepth 100000 in
theorem byteCells_one (l : List UInt8) : ∀ u ∈ Lib.byteCells l, u.oneCell' = true := by
  intro u hu
  obtain ⟨_, _, rfl⟩ := List.mem_map.1 hu
  rfl

set_option maxRecDepth 100000 in
theorem Rd.nil (w : World) : Rd w (.slice none 0 0) [] := ⟨none, 0, rfl, Nat.le_refl _, Nat.zero_le _, fun _ => rfl, .inl rfl⟩

set_option maxRecDepth 100000 in
theorem Rd.below {w w' : World} {v : Value} {l : List UInt8} (h : Rd w v l) {B : Nat} (hb : Below B w w') (hB : w.heap.size ≤ B) : Rd w' v l := by
  obtain ⟨ao, cap, h1, h2, h3, hn, h4⟩ := h
  refine ⟨ao, cap, h1, h2, h3, hn, ?_⟩
  rcases h4 with h4 | ⟨b, off, h5, h6⟩
  · exact .inl h4
  · refine .inr ⟨b, off, h5, fun j hj => ?_⟩
    have hc := h6 j hj
    have hlt : b < w.heap.size := World.block_lt_of_cell? w ⟨b, off + j, none⟩ hc
    rw [hb.cell (p := ⟨b, off + j, none⟩) (by exact Nat.lt_of_lt_of_le hlt hB)]
    exact hc

set_option maxRecDepth 100000 in
/-- One byte of what is read. -/
theorem Rd.at {w : World} {b off n cap : Nat} {l : List UInt8} (h : Rd w (.slice (some ⟨b, off, none⟩) n cap) l) (j : Nat) (hj : j < l.length) : w.cell? ⟨b, off + j, none⟩ = some (.int .u8 (l.getD j 0).toNat) := by
  obtain ⟨ao, cap', hv, _, _, _, h4⟩ := h
  simp only [Value.slice.injEq] at hv
  obtain ⟨rfl, _, rfl⟩ := hv
  rcases h4 with h4 | ⟨b', off', h5, h6⟩
  · subst h4
    simp at hj
  · simp only [Option.some.injEq, Addr.mk.injEq, and_true] at h5
    obtain ⟨rfl, rfl⟩ := h5
    exact h6 j hj

set_option maxRecDepth 100000 in
/-- The first bytes of what is read. -/
theorem Rd.front {w : World} {ao : Option Addr} {n cap : Nat} {l : List UInt8} (h : Rd w (.slice ao n cap) l) (k : Nat) (hk : k ≤ l.length) : Rd w (.slice ao k cap) (l.take k) := by
  obtain ⟨ao', cap', hv, h1, h2, h3, h4⟩ := h
  simp only [Value.slice.injEq] at hv
  obtain ⟨rfl, _, rfl⟩ := hv
  have hlen : (l.take k).length = k := by simp; omega
  refine ⟨ao, cap, by rw [hlen], by omega, h2, h3, ?_⟩
  rcases h4 with h4 | ⟨b, off, h5, h6⟩
  · exact .inl (by rw [h4]; simp)
  · refine .inr ⟨b, off, h5, fun j hj => ?_⟩
    have hj2 : j < k := by omega
    rw [h6 j (by omega)]
    simp [List.getD, hj2]

/-- A row of noughts, made. -/
def zeroRow (n : Nat) : Array Value := (List.replicate n (Value.int .u8 0)).toArray

set_option maxRecDepth 100000 in
theorem Rd.made (w : World) (n : Nat) (hn : n ≤ maxLen) : Rd (w.alloc (.cells (zeroRow n) 5)) (.slice (some ⟨w.heap.size, 0, none⟩) n n) (List.replicate n 0) := by
  have hl : (List.replicate n (0 : UInt8)).length = n := List.length_replicate
  refine ⟨some ⟨w.heap.size, 0, none⟩, n, by rw [hl], by omega, hn, (fun e => by cases e), .inr ⟨w.heap.size, 0, rfl, fun j hj => ?_⟩⟩
  have hj' : j < n := by omega
  rw [Nat.zero_add, cell_of_row _ w.heap.size j (zeroRow n) 5 (0, 0) (heap_alloc_new w _)]
  simp [zeroRow, List.getD, hj']

set_option maxRecDepth 100000 in
/-- A row of numbers that came in, as bytes. -/
theorem Rd.ofRow {w : World} {x : Addr} {len cap : Nat} {zs : List Int} (hl : len ≤ cap) (hm : cap ≤ maxLen) (hz : zs.length = cap) (hcell : ∀ i, i < zs.length → w.cell? (x.add i) = some (.int .u8 (zs.getD i 0))) (hwz : ∀ n ∈ zs, (Lit.int .u8 n).wf = true) :
    Rd w (.slice (some x) len cap) ((zs.take len).map fun n => UInt8.ofNat n.toNat) := by
  have hlen : ((zs.take len).map fun n => UInt8.ofNat n.toNat).length = len := by simp; omega
  refine ⟨some x, cap, by rw [hlen], by omega, hm, (fun e => by cases e), ?_⟩
  by_cases h0 : len = 0
  · exact .inl (by rw [h0]; rfl)
  · obtain ⟨b, off, spot⟩ := x
    have hc := hcell 0 (by omega)
    have hspot : spot = none := by simpa [Addr.add] using World.cell?_spot hc
    subst hspot
    refine .inr ⟨b, off, rfl, fun j hj => ?_⟩
    have hj' : j < zs.length := by omega
    have hcj := hcell j hj'
    rw [Addr.add_lit] at hcj
    rw [hcj]
    have hmem : zs[j] ∈ zs := List.getElem_mem hj'
    have hw := hwz _ hmem
    have hb : 0 ≤ zs[j] ∧ zs[j] ≤ 255 := by simpa [Lit.wf, IntKind.min, IntKind.max, IntKind.signed, IntKind.bits] using hw
    have e : (((zs.take len).map fun n => UInt8.ofNat n.toNat).getD j 0) = UInt8.ofNat (zs[j]).toNat := by
      simp [List.getD, hj', show j < len by omega]
    rw [e]
    have e2 : zs.getD j 0 = zs[j] := by simp [List.getD, hj']
    rw [e2, UInt8.toNat_ofNat']
    congr 2
    omega

set_option maxRecDepth 100000 in
theorem Own.rd {w : World} {B : Nat} {v : Value} {l : List UInt8} (h : Own w B v l) : Rd w v l := by
  rcases h.2 with ⟨hv, hn⟩ | ⟨g, cap, cur, hv, hb, hg, hnc, hcm, hcs, htake⟩
  · exact ⟨none, 0, by rw [hv, hn], by omega, Nat.zero_le _, fun _ => rfl, .inl (List.eq_nil_of_length_eq_zero hn)⟩
  · refine ⟨some ⟨g, 0, none⟩, cap, hv, hnc, hcm, (fun e => by cases e), .inr ⟨g, 0, rfl, fun j hj => ?_⟩⟩
    have := World.ownsRow.cells h (g := g) (by rw [hv]; rfl) j _ (byteCells_get l j hj)
    rw [Addr.add_lit] at this
    exact this

set_option maxRecDepth 100000 in
theorem Own.mono {w : World} {B B' : Nat} {v : Value} {l : List UInt8} (h : Own w B v l) (hB : B' ≤ B) : Own w B' v l := by
  obtain ⟨h1, h2⟩ := h
  refine ⟨h1, ?_⟩
  rcases h2 with h2 | ⟨g, cap, cur, hv, hb, r⟩
  · exact .inl h2
  · exact .inr ⟨g, cap, cur, hv, by omega, r⟩

set_option maxRecDepth 100000 in
theorem Own.below {w w' : World} {B B' : Nat} {v : Value} {l : List UInt8} (h : Own w B v l) (hb : Below B' w w') (hB : w.heap.size ≤ B') : Own w' B v l := by
  obtain ⟨h1, h2⟩ := h
  refine ⟨h1, ?_⟩
  rcases h2 with h2 | ⟨g, cap, cur, hv, hbg, hg, r⟩
  · exact .inl h2
  · have hlt : g < w.heap.size := (Array.getElem?_eq_some_iff.1 hg).1
    exact .inr ⟨g, cap, cur, hv, hbg, by rw [hb.block g (by omega)]; exact hg, r⟩

set_option maxRecDepth 100000 in
/-- The cells of what is read, for an append of them. -/
theorem Rd.cells {w : World} {ao : Option Addr} {l : List UInt8} (h : l = [] ∨ ∃ b off, ao = some ⟨b, off, none⟩ ∧ ∀ j, j < l.length → w.cell? ⟨b, off + j, none⟩ = some (.int .u8 (l.getD j 0).toNat)) :
    ∀ ad, ao = some ad → ∀ j u, (Lib.byteCells l)[j]? = some u → w.cell? (ad.add j) = some u := by
  intro ad had j u hu
  have hj : j < l.length := by
    have := (List.getElem?_eq_some_iff.1 hu).1
    simpa [Lib.byteCells] using this
  rcases h with rfl | ⟨b, off, h5, h6⟩
  · simp at hj
  · rw [h5] at had
    obtain rfl := Option.some.inj had
    rw [Addr.add_lit, h6 j hj, ← byteCells_get l j hj, hu]

set_option maxRecDepth 100000 in
/-- Bytes owned, given by their cells. -/
theorem Own.mk' {w : World} {B : Nat} {v : Value} {n : Nat} {xs : List Value} {l : List UInt8} (h : w.ownsRow B 5 1 v n xs) (hn : n = l.length) (hx : xs = Lib.byteCells l) : Own w B v l := by
  subst hn hx
  exact h

set_option maxRecDepth 100000 in
theorem info8 : (Try.prog.info? 5).map (fun i => (i.zero, i.size, i.bytes)) = some (some (.int .u8 0), 1, 1) := by kernel_rfl

set_option maxRecDepth 100000 in
theorem ret_int {k : IntKind} {a b : Int} (h : a = b) : Ending.returned (.int k a) = .returned (.int k b) := by rw [h]

end Go.Proofs.Ytedfacbngefhnaa

/- Contracts of the readers of layer num: what each call answers, and that it leaves memory as it was. -/
namespace Go.Proofs.Ytedfacbngefhnaa
open Go.RowKit

theorem zig_plain (n : Int) (h0 : -9223372036854775808 ≤ n) (h1 : n ≤ 9223372036854775807) :
    bits .xor .u64 (IntKind.u64.wrap (IntKind.u64.wrap n * 2)) (IntKind.u64.wrap (n / 9223372036854775808)) = ((Lib.zigzag n : Nat) : Int) := by
  by_cases h : 0 ≤ n
  · have e1 : IntKind.u64.wrap (IntKind.u64.wrap n * 2) = (((2 * n).toNat : Nat) : Int) := by
      rw [IntKind.wrap_u64, IntKind.wrap_u64]; omega
    have e2 : IntKind.u64.wrap (n / 9223372036854775808) = ((0 : Nat) : Int) := by
      rw [IntKind.wrap_u64]; omega
    rw [e1, e2, bits_xor_u64_nat _ _ (by omega) (by decide)]
    unfold Lib.zigzag
    rw [if_pos h]
    simp
  · have e1 : IntKind.u64.wrap (IntKind.u64.wrap n * 2) = (((2 * n + 18446744073709551616).toNat : Nat) : Int) := by
      rw [IntKind.wrap_u64, IntKind.wrap_u64]; omega
    have e2 : IntKind.u64.wrap (n / 9223372036854775808) = ((2 ^ 64 - 1 : Nat) : Int) := by
      rw [IntKind.wrap_u64]; omega
    rw [e1, e2, bits_xor_u64_nat _ _ (by omega) (by decide), Nat.xor_comm, Lib.xor_ones64 _ (by omega)]
    unfold Lib.zigzag
    rw [if_neg h]
    omega

/-- The number of which it is Zig. -/
def zag (u : Nat) : Int := if u % 2 = 0 then ((u / 2 : Nat) : Int) else -((u / 2 : Nat) : Int) - 1

theorem i64_xor_ones (x : Nat) (hx : x < 9223372036854775808) : bits .xor .i64 (x : Int) (-1) = -(x : Int) - 1 := by
  show IntKind.i64.wrap ((BitVec.ofInt 64 (x : Int) ^^^ BitVec.ofInt 64 (-1)).toNat : Int) = _
  have h1 : (BitVec.ofInt 64 (-1)).toNat = 2 ^ 64 - 1 := by decide
  have h2 : (BitVec.ofInt 64 (x : Int)).toNat = x := by
    rw [BitVec.ofInt_natCast, BitVec.toNat_ofNat]; exact Nat.mod_eq_of_lt (by omega)
  rw [BitVec.toNat_xor, h1, h2, Nat.xor_comm, Lib.xor_ones64 x (by omega), IntKind.wrap_i64]
  omega

theorem i64_xor_zero (x : Nat) (hx : x < 9223372036854775808) : bits .xor .i64 (x : Int) 0 = (x : Int) := by
  show IntKind.i64.wrap ((BitVec.ofInt 64 (x : Int) ^^^ BitVec.ofInt 64 0).toNat : Int) = _
  have h1 : (BitVec.ofInt 64 0).toNat = 0 := by decide
  have h2 : (BitVec.ofInt 64 (x : Int)).toNat = x := by
    rw [BitVec.ofInt_natCast, BitVec.toNat_ofNat]; exact Nat.mod_eq_of_lt (by omega)
  rw [BitVec.toNat_xor, h1, h2, Nat.xor_zero, IntKind.wrap_i64]
  omega

theorem zag_plain (u : Nat) (h : u < 18446744073709551616) :
    bits .xor .i64 ((u : Int) / 2) (wrap64 (-wrap64 (bits .and .u64 (u : Int) 1))) = zag u := by
  rw [Lib.u64_and1 _ (by omega) (by omega)]
  have e : (u : Int) / 2 = ((u / 2 : Nat) : Int) := by omega
  rw [e]
  unfold zag
  by_cases hp : u % 2 = 0
  · have e2 : wrap64 (-wrap64 ((u : Int) % 2)) = 0 := by
      have : (u : Int) % 2 = 0 := by omega
      rw [this]
      unfold wrap64
      omega
    rw [e2, if_pos hp, i64_xor_zero _ (by omega)]
  · have e2 : wrap64 (-wrap64 ((u : Int) % 2)) = -1 := by
      have : (u : Int) % 2 = 1 := by omega
      rw [this]
      unfold wrap64
      omega
    rw [e2, if_neg hp, i64_xor_ones _ (by omega)]

theorem zag_zigzag (n : Int) (h0 : -9223372036854775808 ≤ n) (h1 : n ≤ 9223372036854775807) : zag (Lib.zigzag n) = n := by
  unfold zag Lib.zigzag
  split <;> split <;> omega

theorem zigzag_zag (u : Nat) : Lib.zigzag (zag u) = u := by
  unfold zag Lib.zigzag
  split <;> split <;> omega

theorem zag_range (u : Nat) (h : u < 18446744073709551616) : -9223372036854775808 ≤ zag u ∧ zag u ≤ 9223372036854775807 := by
  unfold zag
  split <;> omega

end Go.Proofs.Ytedfacbngefhnaa

/- Objects: states, operations and numbers as values in memory; what a step answers. -/
namespace Go.Proofs.Ytedfacbngefhnaa
open Go.RowKit

theorem ret_i {k : IntKind} {a b : Int} (h : a = b) : Ending.returned (.int k a) = .returned (.int k b) := by rw [h]

theorem ret_b {a b : Bool} (h : a = b) : Ending.returned (.bool a) = .returned (.bool b) := by rw [h]

theorem withF_at (key n : Int) (l : List Int) (k : Nat) (d : Bool) (h : k + 1 < l.length) :
    withF key n d (l.drop k) = (if d = false ∧ key ≤ l.getD k 0 then [key, n] else []) ++ ((if l.getD k 0 ≠ key then [l.getD k 0, l.getD (k + 1) 0] else []) ++ withF key n (d || decide (key ≤ l.getD k 0)) (l.drop (k + 2))) := by
  rw [drop_pair l k h]
  exact rfl

/-- A value that is a state. -/
def StV (w : World) (v : Value) (s : St) : Prop := ∃ vl, v = .agg #[.int .i64 s.kind, vl, .bool s.shut, .int .i64 s.eng] ∧ RdI w vl s.L ∧ I64 s.kind ∧ I64 s.eng

/-- An operation as a value. -/
def opV (o : Opn) : Value := .agg #[.int .i64 o.code, .int .i64 o.a, .int .i64 o.b]

def OpOk (o : Opn) : Prop := I64 o.code ∧ I64 o.a ∧ I64 o.b

theorem StV.below {w w' : World} {v : Value} {s : St} (h : StV w v s) {B : Nat} (hb : Below B w w') (hB : w.heap.size ≤ B) : StV w' v s := by
  obtain ⟨vl, h1, h2, h3, h4⟩ := h
  exact ⟨vl, h1, h2.below hb hB, h3, h4⟩

theorem may_bad1 {s : St} (h : s.eng < 0 ∨ 2 < s.eng ∨ (s.shut = false ∧ s.eng ≠ 0) ∨ s.kind < 0 ∨ 6 ≤ s.kind) : ¬ MayS s := by
  rintro ⟨h1, h2, h3, h4, h5, _⟩
  rcases h with h | h | ⟨h, h'⟩ | h | h
  · omega
  · omega
  · exact h' (h3 h)
  · omega
  · omega

theorem may_nums {s : St} (h1 : 0 ≤ s.eng) (h2 : s.eng ≤ 2) (h3 : s.shut = false → s.eng = 0) (h4 : 0 ≤ s.kind) (h5 : s.kind < 6) : MayS s ↔ NumsOk s.kind s.L :=
  ⟨fun h => h.2.2.2.2.2, fun h => ⟨h1, h2, h3, h4, h5, h⟩⟩

theorem getD_ext_int (A B : List Int) (hl : A.length = B.length) (h : ∀ j, j < A.length → A.getD j 0 = B.getD j 0) : A = B := by
  apply List.ext_getElem hl
  intro j h1 h2
  have := h j h1
  simpa [List.getD, h1, h2] using this

/-- Two states are the same. -/
def SameS (a b : St) : Prop := a.kind = b.kind ∧ a.shut = b.shut ∧ a.eng = b.eng ∧ a.L = b.L

instance (a b : St) : Decidable (SameS a b) := by unfold SameS; infer_instance

/-- What a step answers. -/
def Stepped (w : World) (vl : Value) (L : List Int) (r : St × Int) (e : Ending) (w' : World) : Prop :=
  ∃ vl', e = .returned (.tuple #[.agg #[.int .i64 r.1.kind, vl', .bool r.1.shut, .int .i64 r.1.eng], .int .i64 r.2]) ∧ RdI w' vl' r.1.L ∧ I64 r.1.kind ∧ I64 r.1.eng ∧ ((vl' = vl ∧ r.1.L = L) ∨ ∀ b, vl'.ownBlock = some b → w.heap.size ≤ b) ∧ Below w.heap.size w w'

/-- The numbers of a state's value. -/
def lval : Value → Value
  | .agg ⟨[_, x, _, _]⟩ => x
  | v => v

theorem lval_agg (a x c d : Value) : lval (.agg #[a, x, c, d]) = x := rfl

theorem ownBlock_is {g off n c b : Nat} (h : (Value.slice (some ⟨g, off, none⟩) n c).ownBlock = some b) : b = g := by
  injection h with h
  exact h.symm

/-- A state with numbers that are new. -/
theorem Stepped.fresh {w w' : World} {vl vl' : Value} {L L' : List Int} {kind g : Int} {shut : Bool} (hr : RdI w' vl' L') (hki : I64 kind) (hti : I64 g) (n : Int) (hf : ∀ b, vl'.ownBlock = some b → w.heap.size ≤ b) (hb : Below w.heap.size w w') :
    Stepped w vl L (⟨kind, L', shut, g⟩, n) (.returned (.tuple #[.agg #[.int .i64 kind, vl', .bool shut, .int .i64 g], .int .i64 n])) w' :=
  ⟨_, rfl, hr, hki, hti, .inr hf, hb⟩

/-- A state with the numbers that came in. -/
theorem Stepped.same {w w' : World} {vl : Value} {L : List Int} {kind g : Int} {shut : Bool} (hr : RdI w vl L) (hki : I64 kind) (hti : I64 g) (n : Int) (hb : Below w.heap.size w w') :
    Stepped w vl L (⟨kind, L, shut, g⟩, n) (.returned (.tuple #[.agg #[.int .i64 kind, vl, .bool shut, .int .i64 g], .int .i64 n])) w' :=
  ⟨_, rfl, hr.below hb (Nat.le_refl _), hki, hti, .inl ⟨rfl, rfl⟩, hb⟩

theorem cut_i64 (n : Int) : I64 (cutZ n) := by
  have := cutZ_in n
  unfold I64
  omega

theorem RdI.one (w : World) (x : Int) (h : I64 x) : RdI (w.alloc (.cells #[.int .i64 x] 3)) (.slice (some ⟨w.heap.size, 0, none⟩) 1 1) [x] := by
  refine ⟨some ⟨w.heap.size, 0, none⟩, 1, rfl, Nat.le_refl _, by decide, (fun e => by cases e), ?_, .inr ⟨w.heap.size, 0, rfl, fun j hj => ?_⟩⟩
  · intro n hn
    simp at hn
    rw [hn]
    exact h
  · have e : j = 0 := by simpa using hj
    subst e
    rw [Nat.zero_add, cell_of_row _ w.heap.size 0 #[.int .i64 x] 3 (0, 0) (heap_alloc_new w _)]
    rfl

theorem size3 (w : World) (x y z : Obj) : (((w.alloc x).alloc y).alloc z).heap.size = w.heap.size + 1 + 1 + 1 := by simp

theorem RdI.one3 (w : World) (x y z : Obj) (n : Int) (h : I64 n) : RdI ((((w.alloc x).alloc y).alloc z).alloc (.cells #[.int .i64 n] 3)) (.slice (some ⟨w.heap.size + 1 + 1 + 1, 0, none⟩) 1 1) [n] := by
  have h := RdI.one (((w.alloc x).alloc y).alloc z) n h
  rwa [size3] at h

/-- A state's cells, an operation's, and room for a state, in three blocks one behind the other. -/
def Boxes (w : World) (B : Nat) (s o r : Array Value) : Prop :=
  w.heap[B]? = some (.cells s 24 (0, 0)) ∧ w.heap[B + 1]? = some (.cells o 26 (0, 0)) ∧ w.heap[B + 1 + 1]? = some (.cells r 24 (0, 0))

theorem Boxes.made (w : World) (s o r : Array Value) : Boxes (((w.alloc (.cells s 24)).alloc (.cells o 26)).alloc (.cells r 24)) w.heap.size s o r := by
  refine ⟨?_, ?_, ?_⟩
  · rw [Below.heap_alloc _ _ _ (by simp; omega), Below.heap_alloc _ _ _ (by simp)]
    exact heap_alloc_new w _
  · rw [Below.heap_alloc _ _ _ (by simp)]
    have h := heap_alloc_new (w.alloc (.cells s 24)) (.cells o 26)
    have e : (w.alloc (.cells s 24)).heap.size = w.heap.size + 1 := by simp
    rwa [e] at h
  · have h := heap_alloc_new ((w.alloc (.cells s 24)).alloc (.cells o 26)) (.cells r 24)
    have e : ((w.alloc (.cells s 24)).alloc (.cells o 26)).heap.size = w.heap.size + 1 + 1 := by simp
    rwa [e] at h

theorem Boxes.below {w w' : World} {B : Nat} {s o r : Array Value} {C : Nat} (h : Boxes w B s o r) (hb : Below C w w') (hC : B + 3 ≤ C) : Boxes w' B s o r := by
  obtain ⟨h1, h2, h3⟩ := h
  exact ⟨by rw [hb.block _ (by omega)]; exact h1, by rw [hb.block _ (by omega)]; exact h2, by rw [hb.block _ (by omega)]; exact h3⟩
-- 24

theorem Boxes.s {w : World} {B : Nat} {s o r : Array Value} (h : Boxes w B s o r) (j : Nat) : w.cell? ⟨B, j, none⟩ = s[j]? ∧ w.frozen? ⟨B, j, none⟩ = false :=
  ⟨cell_of_row w B j _ _ _ h.1, frozen_of_row w B j _ _ h.1⟩
-- 24

theorem Boxes.o {w : World} {B : Nat} {s o r : Array Value} (h : Boxes w B s o r) (j : Nat) : w.cell? ⟨B + 1, j, none⟩ = o[j]? ∧ w.frozen? ⟨B + 1, j, none⟩ = false :=
  ⟨cell_of_row w (B + 1) j _ _ _ h.2.1, frozen_of_row w (B + 1) j _ _ h.2.1⟩
-- 24

theorem Boxes.r {w : World} {B : Nat} {s o r : Array Value} (h : Boxes w B s o r) (j : Nat) : w.cell? ⟨B + 1 + 1, j, none⟩ = r[j]? ∧ w.frozen? ⟨B + 1 + 1, j, none⟩ = false :=
  ⟨cell_of_row w (B + 1 + 1) j _ _ _ h.2.2, frozen_of_row w (B + 1 + 1) j _ _ h.2.2⟩
-- 24

theorem OwnI.shape {w : World} {B : Nat} {v : Value} {l : List Int} (h : OwnI w B v l) : ∃ ao cap, v = .slice ao l.length cap := by
  rcases h.2 with ⟨hv, hn⟩ | ⟨g, cap, cur, hv, _⟩
  · exact ⟨none, 0, by rw [hv, hn]⟩
  · exact ⟨_, _, hv⟩

/-- One field of the state, and the four of the answer, are written. -/
def wrote5 (w : World) (B R : Nat) (x0 x1 x2 x3 x4 : Value) : World :=
  ((((w.setCell ⟨B, 1, none⟩ x0).setCell ⟨R, 0, none⟩ x1).setCell ⟨R, 1, none⟩ x2).setCell ⟨R, 2, none⟩ x3).setCell ⟨R, 3, none⟩ x4

theorem OwnI.five {w : World} {C : Nat} {v : Value} {l : List Int} (h : OwnI w C v l) (B R : Nat) (hB : B < C) (hR : R < C) (x0 x1 x2 x3 x4 : Value) : OwnI (wrote5 w B R x0 x1 x2 x3 x4) C v l :=
  ownsRow_setCell_below (ownsRow_setCell_below (ownsRow_setCell_below (ownsRow_setCell_below (ownsRow_setCell_below h hB _) hR _) hR _) hR _) hR _

theorem belowFive {C : Nat} {w0 w : World} (h : Below C w0 w) (B R : Nat) (hB : C ≤ B) (hR : C ≤ R) (x0 x1 x2 x3 x4 : Value) : Below C w0 (wrote5 w B R x0 x1 x2 x3 x4) :=
  ((((h.setCell hB _).setCell hR _).setCell hR _).setCell hR _).setCell hR _

theorem elem_ints : Try.prog.elem 22 = 3 := by kernel_rfl

theorem size_int (w : World) : (sizeOf 3).run Try.prog w = .ok 1 w := by
  obtain ⟨i0, hi, _, hz1, _⟩ := info_parts info_i64
  simp [sizeOf, typeInfo, hi, hz1]

theorem under_ints : Try.prog.underlying 22 = some (.slice (Try.prog.elem 22)) := by rw [elem_ints]; exact Try.underlying22

theorem RdI.mid {w : World} {ao : Option Addr} {n cap : Nat} {l : List Int} (h : RdI w (.slice ao n cap) l) (i j m : Nat) (hij : i ≤ j) (hj : j ≤ l.length) (hm : j ≤ m) (hmc : m ≤ cap) : RdI w (sliced ao i j m 1) ((l.drop i).take (j - i)) := by
  obtain ⟨ao', cap', hv, h1, h2, h3, hi, h4⟩ := h
  simp only [Value.slice.injEq] at hv
  obtain ⟨rfl, rfl, rfl⟩ := hv
  have hlen : ((l.drop i).take (j - i)).length = j - i := by simp; omega
  have hi' : ∀ n ∈ (l.drop i).take (j - i), I64 n := fun n hn => hi n (List.mem_of_mem_drop (List.mem_of_mem_take hn))
  unfold sliced
  by_cases hmi : m = i
  · rw [if_pos hmi]
    have e : j - i = 0 := by omega
    refine ⟨ao, m - i, by rw [hlen], by omega, by omega, fun hn => by have := h3 hn; omega, hi', .inl ?_⟩
    rw [e]
    simp
  · rw [if_neg hmi]
    refine ⟨ao.map (·.add (i * 1)), m - i, by rw [hlen], by omega, by omega, fun hn => ?_, hi', ?_⟩
    · have hn' : ao = none := by simpa using hn
      have := h3 hn'
      omega
    · rcases h4 with h4 | ⟨b, off, h5, h6⟩
      · exact .inl (by rw [h4]; simp)
      · refine .inr ⟨b, off + i, ?_, fun k hk => ?_⟩
        · rw [h5, Nat.mul_one, Option.map_some, Addr.add_lit]
        · rw [hlen] at hk
          rw [Nat.add_assoc, h6 (i + k) (by omega)]
          simp [List.getD, hk]

theorem sliced_block (ao : Option Addr) (i j m s n c : Nat) : (sliced ao i j m s).ownBlock = (Value.slice ao n c).ownBlock := by
  unfold sliced
  cases ao with
  | none => split <;> rfl
  | some a => split <;> simp [Value.ownBlock, Go.ChangeShapes.block_add]

theorem run_cutI_l (w : World) (v : Value) (l : List Int) (hr : RdI w v l) (k : IntKind) (i : Int) (h0 : 0 ≤ i) (h2 : i ≤ l.length) :
    ∃ v', (Instr.sliceAt 22 v (some (.int k i)) none none).run Try.prog w = .ok v' w ∧ RdI w v' (l.drop i.toNat) ∧ v'.ownBlock = v.ownBlock := by
  have h := hr
  obtain ⟨ao, cap, rfl, hlc, _⟩ := hr
  refine ⟨sliced ao i.toNat l.length cap 1, ?_, ?_, sliced_block _ _ _ _ _ _ _⟩
  · rw [run_sliceAt_slice w 22 _ _ _ _ under_ints, run_slice_l w 22 ao l.length cap under_ints k i h0 (by omega), elem_ints, size_int]
    rfl
  · have := h.mid i.toNat l.length cap (by omega) (Nat.le_refl _) hlc (Nat.le_refl _)
    rw [List.take_of_length_le (by simp)] at this
    exact this

theorem run_cutI_h (w : World) (v : Value) (l : List Int) (hr : RdI w v l) (k : IntKind) (j : Int) (h0 : 0 ≤ j) (h2 : j ≤ l.length) :
    ∃ v', (Instr.sliceAt 22 v none (some (.int k j)) none).run Try.prog w = .ok v' w ∧ RdI w v' (l.take j.toNat) ∧ v'.ownBlock = v.ownBlock := by
  have h := hr
  obtain ⟨ao, cap, rfl, hlc, _⟩ := hr
  refine ⟨sliced ao 0 j.toNat cap 1, ?_, ?_, sliced_block _ _ _ _ _ _ _⟩
  · rw [run_sliceAt_slice w 22 _ _ _ _ under_ints, run_slice_h w 22 ao l.length cap under_ints k j h0 (by omega), elem_ints, size_int]
    rfl
  · have := h.mid 0 j.toNat cap (by omega) (by omega) (by omega) (Nat.le_refl _)
    simpa using this

theorem wpList_cutI (w : World) {ops : Array Oper} {rest : List Oper} {o : Oper} {a : Act} {Q : Exit → Act → World → Prop} (hgd : o.guard = none) (x : Operand) (lo hi mx : Option Operand)
    (ho : o.op = .slice 22 x lo hi mx) (l : List Int)
    (hrun : ∃ v', (Instr.sliceAt 22 (a.eval x) (lo.map a.eval) (hi.map a.eval) (mx.map a.eval)).run Try.prog w = .ok v' w ∧ RdI w v' l ∧ v'.ownBlock = (a.eval x).ownBlock)
    (h : ∀ v', RdI w v' l → v'.ownBlock = (a.eval x).ownBlock → wpList Try.prog ops Q rest (a.put o.dst v') w) : wpList Try.prog ops Q (o :: rest) a w :=
  wpList_plain hgd fun _ hK => by
    obtain ⟨v', hrun, hr, hbk⟩ := hrun
    unfold Oper.wp execOp
    simp only [ho, hrun, Sem.run_bind, Sem.run_pure, Result.andThen_ok]
    exact hK _ _ (h v' hr hbk)

/-- What is read stays while cells in other blocks are written. -/
theorem RdI.five {w : World} {v : Value} {l : List Int} (h : RdI w v l) (B R : Nat) (hw : ∀ b, v.ownBlock = some b → b ≠ B ∧ b ≠ R) (x0 x1 x2 x3 x4 : Value) : RdI (wrote5 w B R x0 x1 x2 x3 x4) v l := by
  obtain ⟨ao, cap, h1, h2, h3, hn, hi, h4⟩ := h
  refine ⟨ao, cap, h1, h2, h3, hn, hi, ?_⟩
  rcases h4 with h4 | ⟨b, off, h5, h6⟩
  · exact .inl h4
  · refine .inr ⟨b, off, h5, fun j hj => ?_⟩
    obtain ⟨e1, e2⟩ := hw b (by rw [h1, h5]; rfl)
    rw [← h6 j hj]
    have hb : (wrote5 w B R x0 x1 x2 x3 x4).heap[b]? = w.heap[b]? := by
      unfold wrote5
      rw [Below.heap_setCell _ _ _ _ e2, Below.heap_setCell _ _ _ _ e2, Below.heap_setCell _ _ _ _ e2, Below.heap_setCell _ _ _ _ e2, Below.heap_setCell _ _ _ _ e1]
    exact World.cell?_of_block (a := ⟨b, off + j, none⟩) hb

/-- What came in, as it is answered: the same state, behind three boxes. -/
theorem Stepped.kept {w : World} {ao : Option Addr} {cap : Nat} {kind g : Int} {shut : Bool} {l : List Int} (hr : RdI w (.slice ao l.length cap) l) (hki : I64 kind) (hti : I64 g) (n : Int) {w' : World} (hb : Below w.heap.size w w') :
    Stepped w (.slice ao l.length cap) l (⟨kind, l, shut, g⟩, n) (.returned (.tuple #[.agg #[.int .i64 kind, .slice ao l.length cap, .bool shut, .int .i64 g], .int .i64 n])) w' :=
  Stepped.same hr hki hti n hb

/-- The four fields of the answer are written. -/
theorem belowFour {C : Nat} {w0 w : World} (h : Below C w0 w) (R : Nat) (hR : C ≤ R) (x1 x2 x3 x4 : Value) : Below C w0 ((((w.setCell ⟨R, 0, none⟩ x1).setCell ⟨R, 1, none⟩ x2).setCell ⟨R, 2, none⟩ x3).setCell ⟨R, 3, none⟩ x4) :=
  (((h.setCell hR _).setCell hR _).setCell hR _).setCell hR _

theorem withF_mem (key n : Int) : ∀ (l : List Int) (d : Bool) (x : Int), x ∈ withF key n d l → x ∈ l ∨ x = key ∨ x = n
  | [], d, x, h => by
    unfold withF at h
    split at h
    · simp at h
    · simpa using h
  | [_], d, x, h => by
    unfold withF at h
    split at h
    · simp at h
    · right; simpa using h
  | a :: b :: r, d, x, h => by
    have ih := withF_mem key n r (d || decide (key ≤ a)) x
    unfold withF at h
    rcases List.mem_append.1 h with h | h
    · split at h
      · right; simpa using h
      · simp at h
    · rcases List.mem_append.1 h with h | h
      · split at h
        · left
          simp at h ⊢
          rcases h with h | h
          · exact .inl h
          · exact .inr (.inl h)
        · simp at h
      · rcases ih h with h | h
        · left; simp [h]
        · exact .inr h

theorem withoutF_mem (key : Int) : ∀ (l : List Int) (x : Int), x ∈ withoutF key l → x ∈ l
  | [], x, h => by simp [withoutF] at h
  | [_], x, h => by simp [withoutF] at h
  | a :: b :: r, x, h => by
    have ih := withoutF_mem key r x
    unfold withoutF at h
    rcases List.mem_append.1 h with h | h
    · split at h
      · simp at h ⊢
        rcases h with h | h
        · exact .inl h
        · exact .inr (.inl h)
      · simp at h
    · simp [ih h]

theorem with_i64 {l : List Int} (h : ∀ n ∈ l, I64 n) {key n : Int} (hk : I64 key) (hn : I64 n) {d : Bool} : ∀ x ∈ withF key n d l, I64 x := fun x hx => by
  rcases withF_mem key n l d x hx with hx | rfl | rfl
  · exact h x hx
  · exact hk
  · exact hn

/-- A state whose numbers are new, as it is answered. -/
theorem Stepped.wrote {w w2 : World} {vl : Value} {l : List Int} {kind g : Int} {shut : Bool} {ao : Option Addr} {cap n : Nat} {L : List Int} (ho : OwnI w2 (w.heap.size + 1 + 1 + 1) (.slice ao n cap) L) (hi : ∀ x ∈ L, I64 x) (hki : I64 kind) (hti : I64 g) (r : Int) (hb : Below w.heap.size w w2) :
    Stepped w vl l (⟨kind, L, shut, g⟩, r) (.returned (.tuple #[.agg #[.int .i64 kind, .slice ao n cap, .bool shut, .int .i64 g], .int .i64 r])) (wrote5 w2 w.heap.size (w.heap.size + 1 + 1) (.slice ao n cap) (.int .i64 kind) (.slice ao n cap) (.bool shut) (.int .i64 g)) :=
  Stepped.fresh ((ho.five w.heap.size (w.heap.size + 1 + 1) (by omega) (by omega) _ _ _ _ _).rd hi) hki hti r (fun b hb => by have := (World.ownsRow.lt ho b hb).1; omega) (belowFive hb w.heap.size (w.heap.size + 1 + 1) (Nat.le_refl _) (by omega) _ _ _ _ _)

theorem i64_small {n : Int} (h0 : -2251799813685248 ≤ n) (h1 : n ≤ 2251799813685248) : I64 n := ⟨by omega, by omega⟩

theorem withF_even (key n : Int) : ∀ (l : List Int) (d : Bool), l.length % 2 = 0 → (withF key n d l).length % 2 = 0
  | [], d, _ => by
    unfold withF
    split <;> simp
  | [_], _, h => by simp at h
  | a :: b :: r, d, h => by
    have ih := withF_even key n r (d || decide (key ≤ a)) (by simp at h; omega)
    unfold withF
    simp only [List.length_append]
    have h1 : (if d = false ∧ key ≤ a then [key, n] else ([] : List Int)).length % 2 = 0 := by split <;> simp
    have h2 : (if a ≠ key then [a, b] else ([] : List Int)).length % 2 = 0 := by split <;> simp
    omega

theorem i64wrap_in (n : Int) (h0 : -2251799813685248 ≤ n) (h1 : n ≤ 2251799813685248) : IntKind.i64.wrap n = n := by
  rw [IntKind.wrap_i64]
  omega

theorem move_lift {w w4 : World} {x y z : Obj} {nq : Nat} {v4 : Value} {m : List Int} (ho : OwnI w4 ((((w.alloc x).alloc y).alloc z).drewN nq).drew.heap.size v4 m) (hb : Below ((((w.alloc x).alloc y).alloc z).drewN nq).drew.heap.size ((((w.alloc x).alloc y).alloc z).drewN nq).drew w4) :
    OwnI w4 (w.heap.size + 1 + 1 + 1) v4 m ∧ Below (w.heap.size + 1 + 1 + 1) (((w.alloc x).alloc y).alloc z) w4 ∧ w.heap.size + 1 + 1 + 1 ≤ w4.heap.size := by
  have e : ((((w.alloc x).alloc y).alloc z).drewN nq).drew.heap.size = w.heap.size + 1 + 1 + 1 := size3 w x y z
  rw [e] at ho hb
  have hs := hb.size
  rw [e] at hs
  exact ⟨ho, ((below_drewN (Below.refl _ _) nq).drew).trans hb, hs⟩

theorem had_none {key : Int} {l : List Int} (h : findF key 0 l = -1) : hadF key l = -1 := by
  unfold hadF
  rw [h, if_neg (by omega)]

theorem had_some {key : Int} {l : List Int} {J : Nat} (h : findF key 0 l = ((J : Nat) : Int)) : hadF key l = l.getD (J + 1) 0 := by
  unfold hadF
  rw [h, if_pos (by omega), Int.toNat_natCast]

theorem has_none {key : Int} {l : List Int} (h : findF key 0 l = -1) : hasF key l = 0 := by
  unfold hasF
  rw [h, if_neg (by omega)]

theorem has_some {key : Int} {l : List Int} {J : Nat} (h : findF key 0 l = ((J : Nat) : Int)) : hasF key l = l.getD (J + 1) 0 := by
  unfold hasF
  rw [h, if_pos (by omega), Int.toNat_natCast]

/-- A key is found at a place, or not. -/
theorem find_cases (key : Int) (l : List Int) : findF key 0 l = -1 ∨ ∃ J : Nat, findF key 0 l = ((J : Nat) : Int) ∧ J + 1 < l.length := by
  rcases findF_get key l 0 with ⟨h, _⟩ | ⟨J, h, hJ, _⟩
  · exact .inl h
  · exact .inr ⟨J, by rw [h]; simp, hJ⟩

/-- What a world has is there in another one, but for two blocks. -/
structure But (R T : Nat) (w w' : World) : Prop where
  os : w'.os = w.os
  tape : w'.tape = w.tape
  output : w'.output = w.output
  size : w.heap.size ≤ w'.heap.size
  block : ∀ k, k < w.heap.size → k ≠ R → k ≠ T → w'.heap[k]? = w.heap[k]?

theorem But.refl (R T : Nat) (w : World) : But R T w w := ⟨rfl, rfl, rfl, Nat.le_refl _, fun _ _ _ _ => rfl⟩

theorem But.set {R T : Nat} {w w' : World} (h : But R T w w') (b i : Nat) (hb : b = R ∨ b = T) (x : Value) : But R T w (w'.setCell ⟨b, i, none⟩ x) := by
  have hb0 := (Below.refl 0 w').setCell (p := ⟨b, i, none⟩) (Nat.zero_le _) x
  refine ⟨hb0.os.trans h.os, hb0.tape.trans h.tape, hb0.output.trans h.output, Nat.le_trans h.size hb0.size, fun k hk h1 h2 => ?_⟩
  rw [Below.heap_setCell _ _ _ _ (by rcases hb with rfl | rfl <;> assumption)]
  exact h.block k hk h1 h2

theorem But.alloc {R T : Nat} {w w' : World} (h : But R T w w') (x : Obj) : But R T w (w'.alloc x) := by
  have hb0 := (Below.refl 0 w').alloc (Nat.zero_le _) x
  refine ⟨hb0.os.trans h.os, hb0.tape.trans h.tape, hb0.output.trans h.output, Nat.le_trans h.size hb0.size, fun k hk h1 h2 => ?_⟩
  rw [Below.heap_alloc _ _ _ (by have := h.size; omega)]
  exact h.block k hk h1 h2

theorem But.drew {R T : Nat} {w w' : World} (h : But R T w w') : But R T w w'.drew := ⟨h.os, h.tape, h.output, h.size, h.block⟩

theorem below_but {N R T : Nat} {w wr w' : World} (h : Below N w wr) (hb : But R T wr w') (hN : N ≤ wr.heap.size) (hR : N ≤ R) (hT : N ≤ T) : Below N w w' :=
  ⟨hb.os.trans h.os, hb.tape.trans h.tape, hb.output.trans h.output, Nat.le_trans h.size hb.size, fun k hk => (hb.block k (by omega) (by omega) (by omega)).trans (h.block k hk)⟩

theorem But.four {R T : Nat} {w w' : World} (h : But R T w w') (b : Nat) (hb : b = R ∨ b = T) (x1 x2 x3 x4 : Value) : But R T w ((((w'.setCell ⟨b, 0, none⟩ x1).setCell ⟨b, 1, none⟩ x2).setCell ⟨b, 2, none⟩ x3).setCell ⟨b, 3, none⟩ x4) :=
  (((h.set b 0 hb x1).set b 1 hb x2).set b 2 hb x3).set b 3 hb x4

theorem RdI.block {w : World} {v : Value} {l : List Int} (h : RdI w v l) : l = [] ∨ (l ≠ [] ∧ ∃ b, v.ownBlock = some b ∧ b < w.heap.size) := by
  obtain ⟨ao, cap, h1, h2, h3, hn, hi, h4⟩ := h
  rcases h4 with h4 | ⟨b, off, h5, h6⟩
  · exact .inl h4
  · by_cases hl : l = []
    · exact .inl hl
    · right
      have h0 : 0 < l.length := List.length_pos_iff.2 hl
      exact ⟨hl, b, by rw [h1, h5]; rfl, World.block_lt_of_cell? w ⟨b, off + 0, none⟩ (h6 0 h0)⟩

theorem RdI.but {w w' : World} {v : Value} {l : List Int} (h : RdI w v l) {R T : Nat} (hb : But R T w w') (hn : l = [] ∨ ∀ b, v.ownBlock = some b → b ≠ R ∧ b ≠ T) : RdI w' v l := by
  obtain ⟨ao, cap, h1, h2, h3, hn0, hi, h4⟩ := h
  refine ⟨ao, cap, h1, h2, h3, hn0, hi, ?_⟩
  rcases h4 with h4 | ⟨b, off, h5, h6⟩
  · exact .inl h4
  · rcases hn with hn | hn
    · exact .inl hn
    · refine .inr ⟨b, off, h5, fun j hj => ?_⟩
      obtain ⟨n1, n2⟩ := hn b (by rw [h1, h5]; rfl)
      have hlt := World.block_lt_of_cell? w ⟨b, off + j, none⟩ (h6 j hj)
      rw [← h6 j hj]
      exact World.cell?_of_block (a := ⟨b, off + j, none⟩) (hb.block b hlt n1 n2)

/-- What a callee answered, handed on by way of a box. -/
theorem Stepped.passed {w W w2 F : World} {vl : Value} {l : List Int} {r : St × Int} {e : Ending} (h : Stepped W vl l r e w2) (hr : RdI w vl l) (hb : Below w.heap.size w W) (R T : Nat) (hR0 : w.heap.size ≤ R) (hR1 : R < W.heap.size) (hT0 : w.heap.size ≤ T) (hT1 : T < W.heap.size ∨ w2.heap.size ≤ T) (hF : But R T w2 F) : Stepped w vl l r e F := by
  obtain ⟨vl', he, hr', hki, hti, hd, hb'⟩ := h
  refine ⟨vl', he, ?_, hki, hti, ?_, ?_⟩
  · refine hr'.but hF ?_
    rcases hr'.block with h0 | ⟨hne, b, hbk, hlt⟩
    · exact .inl h0
    · right
      intro b' hb''
      rw [hbk] at hb''
      injection hb'' with hb''
      subst hb''
      rcases hd with ⟨rfl, hl⟩ | hd
      · rcases hr.block with h0 | ⟨_, b2, hbk2, hlt2⟩
        · exact absurd (hl.trans h0) hne
        · rw [hbk] at hbk2
          injection hbk2 with hbk2
          omega
      · have := hd b hbk
        omega
  · rcases hd with hd | hd
    · exact .inl hd
    · exact .inr fun b hbk => Nat.le_trans hb.size (hd b hbk)
  · have hs := hb.size
    have hs' := hb'.size
    refine ⟨hF.os.trans (hb'.os.trans hb.os), hF.tape.trans (hb'.tape.trans hb.tape), hF.output.trans (hb'.output.trans hb.output), by have := hF.size; omega, fun k hk => ?_⟩
    rw [hF.block k (by omega) (by omega) (by omega), hb'.block k (by omega)]
    exact hb.block k hk

theorem nums1 {kind g : Int} {l : List Int} {shut : Bool} (h : MayS ⟨kind, l, shut, g⟩) (hk : kind ≤ 1) : l.length = 1 ∧ -1099511627776 ≤ l.getD 0 0 ∧ l.getD 0 0 ≤ 1099511627776 := by
  have hn := (numsOk_list (kind := kind) (l := l) (by omega) (by omega)).1 h.2.2.2.2.2
  have h1 := hn.2.1 hk
  exact ⟨h1, hn.2.2 0 (by show 0 < l.length; omega)⟩

theorem nums2 {kind g : Int} {l : List Int} {shut : Bool} (h : MayS ⟨kind, l, shut, g⟩) (hk : kind ≤ 3) : l.length ≤ 64 :=
  ((numsOk_list (kind := kind) (l := l) (by omega) (by omega)).1 h.2.2.2.2.2).1

theorem nums4 {g : Int} {l : List Int} {shut : Bool} (h : MayS ⟨4, l, shut, g⟩) : l.length % 2 = 0 ∧ l.length ≤ 128 := by
  have hn := (numsOk_4 l).1 h.2.2.2.2.2
  exact ⟨pairs_even hn.2, hn.1⟩

theorem pairs_mem : ∀ {l : List Int} {lo : Int}, -1 ≤ lo → Pairs 0 lo l → ∀ x ∈ l, 0 ≤ x ∧ x ≤ 1099511627776
  | [], _, _, _, x, hx => by simp at hx
  | [_], _, _, h, _, _ => by simp [Pairs] at h
  | a :: b :: r, lo, hlo, h, x, hx => by
    unfold Pairs at h
    have ih := pairs_mem (l := r) (lo := a) (by omega) h.2.2.2.2 x
    simp at hx
    rcases hx with rfl | rfl | hx
    · omega
    · omega
    · exact ih hx

theorem nums5 {g : Int} {l : List Int} {shut : Bool} (h : MayS ⟨5, l, shut, g⟩) : l.length % 2 = 0 ∧ l.length ≤ 128 ∧ ∀ x ∈ l, 0 ≤ x ∧ x ≤ 1099511627776 := by
  have hn := (numsOk_5 l).1 h.2.2.2.2.2
  exact ⟨pairs_even hn.2, hn.1, pairs_mem (by decide) hn.2⟩

theorem had_i64 {least : Int} {l : List Int} {lo : Int} (hl : -1099511627776 ≤ least) (hp : Pairs least lo l) (key : Int) : I64 (hadF key l) := by
  rw [had_get]
  cases h : getP key l with
  | none => exact i64_small (by decide) (by decide)
  | some v =>
    have := getP_in hp h
    show I64 v
    exact i64_small (by omega) (by omega)

theorem in_i64 {l : List Int} (h : InBounds l) (j : Nat) : I64 (l.getD j 0) := by
  by_cases hj : j < l.length
  · have := h j hj
    exact i64_small (by omega) (by omega)
  · have e : l.getD j 0 = 0 := by simp [List.getD, hj]
    rw [e]
    exact i64_small (by decide) (by decide)

/-- What comes of a step is a number of 64 bits. -/
theorem step_resp (s : St) (o : Opn) : I64 (stepS s o).2 := by
  have c0 : I64 0 := i64_small (by decide) (by decide)
  have c1 : I64 1 := i64_small (by decide) (by decide)
  have cm : I64 (-1) := i64_small (by decide) (by decide)
  have cn : I64 (-2) := i64_small (by decide) (by decide)
  by_cases hm : MayS s
  · by_cases hs : s.shut = true
    · rw [step_shut hm hs]
      exact (i64_small (by decide) (by decide) : I64 (-1125899906842624))
    · have hs' : s.shut = false := by simpa using hs
      by_cases hc : o.code = 10
      · rw [step_seal hm hs' o hc]
        exact c0
      · rw [step_open hm hs' o hc]
        have h0 := hm.2.2.2.1
        have h6 := hm.2.2.2.2.1
        have hn := hm.2.2.2.2.2
        split
        · have hb := ((numsOk_list (by omega) (by omega)).1 hn).2.2
          unfold oneS
          repeat' split
          all_goals first | exact in_i64 hb 0 | exact c0
        split
        · have hl := (numsOk_list (by omega) (by omega)).1 hn
          have hb := hl.2.2
          have h64 : I64 ((s.L.length : Int)) := i64_small (by omega) (by have := hl.1; omega)
          have h65 : I64 ((s.L.length : Int) + 1) := i64_small (by omega) (by have := hl.1; omega)
          unfold listS
          repeat' split
          all_goals first | exact in_i64 hb _ | exact c0 | exact cm | exact h64 | exact h65
        split
        · rename_i hk
          rw [hk, numsOk_4] at hn
          have hh := had_i64 (by decide) hn.2 o.a
          unfold storeS
          repeat' split
          all_goals first | exact c0 | exact cm | exact cn | exact hh
        · have hk : s.kind = 5 := by omega
          rw [hk, numsOk_5] at hn
          have hh := had_i64 (by decide) hn.2 o.a
          unfold ledgerS moveS
          repeat' split
          all_goals first | exact c0 | exact c1 | exact cm | exact cn | exact hh | exact cut_i64 _
  · rw [step_not hm]
    exact c0

/-- What a fold answers. -/
def Folded (w : World) (r : St × List Int) (e : Ending) (w' : World) : Prop :=
  ∃ vl' vo, e = .returned (.tuple #[.agg #[.int .i64 r.1.kind, vl', .bool r.1.shut, .int .i64 r.1.eng], vo]) ∧ RdI w' vl' r.1.L ∧ I64 r.1.kind ∧ I64 r.1.eng ∧ RdI w' vo r.2 ∧ Below w.heap.size w w'

/-- What Start answers. -/
def Started (w : World) (s : St) (e : Ending) (w' : World) : Prop := ∃ v', e = .returned v' ∧ StV w' v' s ∧ Below w.heap.size w w'

theorem OwnI.but {w w' : World} {B : Nat} {v : Value} {l : List Int} (h : OwnI w B v l) {R T : Nat} (hb : But R T w w') (hn : ∀ b, v.ownBlock = some b → b ≠ R ∧ b ≠ T) : OwnI w' B v l := by
  obtain ⟨h1, h2⟩ := h
  refine ⟨h1, ?_⟩
  rcases h2 with h2 | ⟨g, cap, cur, hv, hbg, hg, r⟩
  · exact .inl h2
  · have hlt : g < w.heap.size := (Array.getElem?_eq_some_iff.1 hg).1
    obtain ⟨n1, n2⟩ := hn g (by rw [hv]; rfl)
    exact .inr ⟨g, cap, cur, hv, hbg, by rw [hb.block g hlt n1 n2]; exact hg, r⟩

/-- The box of the state, and the room for the answer, in two blocks. -/
def Box2 (w : World) (B : Nat) (s r : Array Value) : Prop :=
  w.heap[B]? = some (.cells s 24 (0, 0)) ∧ w.heap[B + 1]? = some (.cells r 24 (0, 0))

theorem Box2.made (w : World) (s r : Array Value) : Box2 ((w.alloc (.cells s 24)).alloc (.cells r 24)) w.heap.size s r := by
  refine ⟨?_, ?_⟩
  · rw [Below.heap_alloc _ _ _ (by simp)]
    exact heap_alloc_new w _
  · have h := heap_alloc_new (w.alloc (.cells s 24)) (.cells r 24)
    have e : (w.alloc (.cells s 24)).heap.size = w.heap.size + 1 := by simp
    rwa [e] at h

theorem Box2.below {w w' : World} {B : Nat} {s r : Array Value} {C : Nat} (h : Box2 w B s r) (hb : Below C w w') (hC : B + 2 ≤ C) : Box2 w' B s r := by
  obtain ⟨h1, h2⟩ := h
  exact ⟨by rw [hb.block _ (by omega)]; exact h1, by rw [hb.block _ (by omega)]; exact h2⟩
-- 24

theorem Box2.s {w : World} {B : Nat} {s r : Array Value} (h : Box2 w B s r) (j : Nat) : w.cell? ⟨B, j, none⟩ = s[j]? ∧ w.frozen? ⟨B, j, none⟩ = false :=
  ⟨cell_of_row w B j _ _ _ h.1, frozen_of_row w B j _ _ h.1⟩
-- 24

theorem Box2.r {w : World} {B : Nat} {s r : Array Value} (h : Box2 w B s r) (j : Nat) : w.cell? ⟨B + 1, j, none⟩ = r[j]? ∧ w.frozen? ⟨B + 1, j, none⟩ = false :=
  ⟨cell_of_row w (B + 1) j _ _ _ h.2, frozen_of_row w (B + 1) j _ _ h.2⟩
-- 24

/-- The four cells of a box are written. -/
theorem heap_four (w : World) (b : Nat) (c0 c1 c2 c3 : Value) (ty : TypeId) (h : w.heap[b]? = some (.cells #[c0, c1, c2, c3] ty (0, 0))) (x0 x1 x2 x3 : Value) :
    ((((w.setCell ⟨b, 0, none⟩ x0).setCell ⟨b, 1, none⟩ x1).setCell ⟨b, 2, none⟩ x2).setCell ⟨b, 3, none⟩ x3).heap[b]? = some (.cells #[x0, x1, x2, x3] ty (0, 0)) := by
  have h0 := heap_setCell_same w b 0 _ _ x0 h
  have h1 := heap_setCell_same _ b 1 _ _ x1 h0
  have h2 := heap_setCell_same _ b 2 _ _ x2 h1
  have h3 := heap_setCell_same _ b 3 _ _ x3 h2
  simpa using h3

theorem RdI.grown {w w' : World} {v : Value} {l : List Int} {row : Option Nat} (h : RdI w v l) (hg : w.grownBy w' row) (hn : l = [] ∨ ∀ b, v.ownBlock = some b → some b ≠ row) : RdI w' v l := by
  obtain ⟨ao, cap, h1, h2, h3, hn0, hi, h4⟩ := h
  refine ⟨ao, cap, h1, h2, h3, hn0, hi, ?_⟩
  rcases h4 with h4 | ⟨b, off, h5, h6⟩
  · exact .inl h4
  · rcases hn with hn | hn
    · exact .inl hn
    · refine .inr ⟨b, off, h5, fun j hj => ?_⟩
      exact hg.cell (h6 j hj) (hn b (by rw [h1, h5]; rfl))

/-- One number more behind numbers of the call's own, telling which row it may change and where it lies then. -/
theorem wpList_append_intg (w : World) {ops : Array Oper} {rest : List Oper} {o : Oper} {a : Act} {Q : Exit → Act → World → Prop} (hgd : o.guard = none) (s x : Operand)
    (ho : o.op = .call { callee := .builtin .append, args := #[s, x], argTypes := #[22, 22] })
    (B : Nat) (v : Value) (l : List Int) (hs : a.eval s = v) (hown : OwnI w B v l) (n : Int) (N : Nat) (hN : N = w.heap.size) (hx : a.eval x = .slice (some ⟨N, 0, none⟩) 1 1)
    (hlim : l.length ≤ 1000000) (hbase : B ≤ w.heap.size)
    (h : ∀ v' w', OwnI w' B v' (l ++ [n]) → w.grownBy w' v.ownBlock → (v'.ownBlock = v.ownBlock ∨ ∃ g, v'.ownBlock = some g ∧ w.heap.size ≤ g) → wpList Try.prog ops Q rest (a.put o.dst v') w') : wpList Try.prog ops Q (o :: rest) a (w.alloc (.cells #[.int .i64 n] 3)) :=
  wpList_plain hgd fun _ hK => by
    subst hN
    obtain ⟨i0, hi, hz0, hz1, hz2⟩ := info_parts info_i64
    obtain ⟨v', w', hrun, ho', hg, _, hat⟩ := run_append_own_at (P := Try.prog) (w.alloc (.cells #[.int .i64 n] 3)) B 22 o.type 3 i0 (.int .i64 0) 1 8 Try.underlying22 hi hz0 hz1 hz2 rfl (by decide) v l.length (intCells l) (World.ownsRow.alloc hown _)
      ⟨w.heap.size, 0, none⟩ 1 1 [.int .i64 n] rfl (fun j u hj => by
        match j, hj with
        | 0, hj => simp at hj; subst hj; simp [Addr.add]) (fun u hu => by simp at hu; subst hu; rfl) (by unfold maxLen; omega) (by omega) (by simp; omega)
    have h2 : OwnI w' B v' (l ++ [n]) := by
      unfold OwnI
      have e1 : (l ++ [n]).length = l.length + 1 := by simp
      have e2 : intCells (l ++ [n]) = intCells l ++ [.int .i64 n] := by simp [intCells]
      rw [e1, e2]
      exact ho'
    have h3 : w.grownBy w' v.ownBlock := ⟨hg.os, hg.tape, hg.output, by have := hg.size; simp at this; omega, fun k hk hne => by
      rw [hg.block k (by simp; omega) hne]
      exact Below.heap_alloc _ _ _ hk⟩
    have h4 : v'.ownBlock = v.ownBlock ∨ ∃ g, v'.ownBlock = some g ∧ w.heap.size ≤ g := by
      rcases hat with hat | hat
      · exact .inl hat
      · exact .inr ⟨_, hat, by simp⟩
    unfold Oper.wp execOp
    simp only [ho, resolve, invoke, builtin, Sem.run_bind, Sem.run_pure, Result.andThen_ok, List.map_toArray, List.map_cons, List.map_nil, hs, hx, hrun]
    exact hK _ _ (h v' w' h2 h3 h4)

theorem size_set (w : World) (b i : Nat) (x : Value) : (w.setCell ⟨b, i, none⟩ x).heap.size = w.heap.size := by simp [World.setCell]

theorem size_four (w : World) (b : Nat) (x1 x2 x3 x4 : Value) : ((((w.setCell ⟨b, 0, none⟩ x1).setCell ⟨b, 1, none⟩ x2).setCell ⟨b, 2, none⟩ x3).setCell ⟨b, 3, none⟩ x4).heap.size = w.heap.size := by
  rw [size_set, size_set, size_set, size_set]

theorem size_four_alloc (w : World) (b : Nat) (x1 x2 x3 x4 : Value) (X : Obj) : (((((w.setCell ⟨b, 0, none⟩ x1).setCell ⟨b, 1, none⟩ x2).setCell ⟨b, 2, none⟩ x3).setCell ⟨b, 3, none⟩ x4).alloc X).heap.size = w.heap.size + 1 := by
  have h : ∀ u : World, (u.alloc X).heap.size = u.heap.size + 1 := fun u => by simp
  rw [h, size_four]

theorem size_eight (w : World) (b c : Nat) (x1 x2 x3 x4 y1 y2 y3 y4 : Value) : ((((((((w.setCell ⟨b, 0, none⟩ x1).setCell ⟨b, 1, none⟩ x2).setCell ⟨b, 2, none⟩ x3).setCell ⟨b, 3, none⟩ x4).setCell ⟨c, 0, none⟩ y1).setCell ⟨c, 1, none⟩ y2).setCell ⟨c, 2, none⟩ y3).setCell ⟨c, 3, none⟩ y4).heap.size = w.heap.size := by
  rw [size_four, size_four]

/-- Numbers that are read, where there are some. -/
theorem RdI.filled {w : World} {v : Value} {l : List Int} (h : RdI w v l) (hl : l ≠ []) : ∃ b off cap, v = .slice (some ⟨b, off, none⟩) l.length cap ∧ b < w.heap.size ∧ ∀ j, j < l.length → w.cell? ⟨b, off + j, none⟩ = some (.int .i64 (l.getD j 0)) := by
  obtain ⟨ao, cap, h1, h2, h3, hn, hi, h4⟩ := h
  rcases h4 with h4 | ⟨b, off, h5, h6⟩
  · exact absurd h4 hl
  · have h0 : 0 < l.length := List.length_pos_iff.2 hl
    exact ⟨b, off, cap, by rw [h1, h5], World.block_lt_of_cell? w ⟨b, off + 0, none⟩ (h6 0 h0), h6⟩

/-- The value and the answer of a step, opened. -/
theorem Stepped.open {w w' : World} {vl : Value} {L : List Int} {k g n : Int} {L' : List Int} {s : Bool} {e : Ending} (h : Stepped w vl L (⟨k, L', s, g⟩, n) e w') :
    ∃ ao cap, e = .returned (.tuple #[.agg #[.int .i64 k, .slice ao L'.length cap, .bool s, .int .i64 g], .int .i64 n]) ∧ RdI w' (.slice ao L'.length cap) L' ∧ I64 k ∧ I64 g ∧ Below w.heap.size w w' := by
  obtain ⟨v', he, hr, hk, hg, _, hb⟩ := h
  have hr' := hr
  obtain ⟨ao, cap, rfl, _⟩ := hr
  exact ⟨ao, cap, he, hr', hk, hg, hb⟩

/-- A state's box. -/
def Bx (w : World) (b : Nat) (cs : Array Value) : Prop := w.heap[b]? = some (.cells cs 24 (0, 0))

/-- An operation's box. -/
def Bo (w : World) (b : Nat) (cs : Array Value) : Prop := w.heap[b]? = some (.cells cs 26 (0, 0))

theorem Bx.lt {w : World} {b : Nat} {cs : Array Value} (h : Bx w b cs) : b < w.heap.size := (Array.getElem?_eq_some_iff.1 h).1
-- 24

theorem Bx.below {w w' : World} {b B : Nat} {cs : Array Value} (h : Bx w b cs) (hb : Below B w w') (hB : w.heap.size ≤ B) : Bx w' b cs := (hb.block b (by have := h.lt; omega)).trans h
-- 24

theorem Bx.cell {w : World} {b : Nat} {cs : Array Value} (h : Bx w b cs) (j : Nat) : w.cell? ⟨b, j, none⟩ = cs[j]? ∧ w.frozen? ⟨b, j, none⟩ = false := ⟨cell_of_row w b j _ _ _ h, frozen_of_row w b j _ _ h⟩
-- 24

theorem Bo.lt {w : World} {b : Nat} {cs : Array Value} (h : Bo w b cs) : b < w.heap.size := (Array.getElem?_eq_some_iff.1 h).1

theorem Bo.below {w w' : World} {b B : Nat} {cs : Array Value} (h : Bo w b cs) (hb : Below B w w') (hB : w.heap.size ≤ B) : Bo w' b cs := (hb.block b (by have := h.lt; omega)).trans h

theorem Bo.cell {w : World} {b : Nat} {cs : Array Value} (h : Bo w b cs) (j : Nat) : w.cell? ⟨b, j, none⟩ = cs[j]? ∧ w.frozen? ⟨b, j, none⟩ = false := ⟨cell_of_row w b j _ _ _ h, frozen_of_row w b j _ _ h⟩

theorem sameS_refl (s : St) : SameS s s := ⟨rfl, rfl, rfl, rfl⟩

theorem OwnI.four {w : World} {C : Nat} {v : Value} {l : List Int} (h : OwnI w C v l) (R : Nat) (hR : R < C) (x1 x2 x3 x4 : Value) : OwnI ((((w.setCell ⟨R, 0, none⟩ x1).setCell ⟨R, 1, none⟩ x2).setCell ⟨R, 2, none⟩ x3).setCell ⟨R, 3, none⟩ x4) C v l :=
  ownsRow_setCell_below (ownsRow_setCell_below (ownsRow_setCell_below (ownsRow_setCell_below h hR _) hR _) hR _) hR _

theorem OwnI.fresh {w : World} {B : Nat} {v : Value} {l : List Int} (h : OwnI w B v l) : ∀ b, v.ownBlock = some b → B ≤ b := fun b hb => (World.ownsRow.lt h b hb).1

end Go.Proofs.Ytedfacbngefhnaa

