import Derived.Test.YtedfacbngefhnaaPack2
import Derived.Test.YtedfacbngefhnaaPack1
import Derived.Maps.OwnOps
import Derived.Maps.Views
import Derived.Deep.DeepCutAuto
import Derived.Shelf.Abstract
import Derived.Deep.RegionLaw
/- The engine that copies as one of the programs by which processes share an object. -/
namespace Go.Proofs.Ytedfacbngefhnaa

/-- What a step leaves of the rest. -/
structure Gone (e e' : Eg) (p : Nat) : Prop where
  n : e'.n = e.n
  other : ∀ q, q ≠ p → e'.ps q = e.ps q
  seq : (e'.ps p).seq = (e.ps p).seq
  op : (e'.ps p).op = (e.ps p).op
  began : (e'.ps p).began = (e.ps p).began
  did : (e'.ps p).did = (e.ps p).did + 1

theorem gone_of {e e' : Eg} {p : Nat} {q' : Pc} (h1 : e'.n = e.n) (h3 : e'.ps = putN e.ps p q') (h4 : q'.seq = (e.ps p).seq) (h5 : q'.op = (e.ps p).op) (h6 : q'.began = (e.ps p).began) (h7 : q'.did = (e.ps p).did + 1) : Gone e e' p :=
  ⟨h1, fun q hq => by rw [h3]; exact putN_other _ _ hq, by rw [h3, putN_same]; exact h4, by rw [h3, putN_same]; exact h5, by rw [h3, putN_same]; exact h6, by rw [h3, putN_same]; exact h7⟩

theorem go_gone {e : Eg} {p : Nat} (hb : (e.ps p).nx ≠ .rest) : Gone e (goE e p) p := by
  unfold goE
  split <;> rename_i hx
  · exact absurd hx hb
  · exact gone_of rfl rfl rfl rfl rfl rfl
  · unfold copyE
    split
    · exact gone_of rfl rfl rfl rfl rfl rfl
    · exact gone_of rfl rfl rfl rfl rfl rfl
  · have l := look_same e (e.ps p)
    exact gone_of rfl rfl l.1 l.2.1 l.2.2.1 rfl
  · unfold swapE
    split
    · exact gone_of rfl rfl rfl rfl rfl rfl
    · exact gone_of rfl rfl rfl rfl rfl rfl

def herlM : Mod Eg where
  n e := e.n
  ok e := ∃ g, Inv e g
  seq e p := (e.ps p).seq
  busy e p := decide ((e.ps p).nx ≠ .rest)
  cur e p := (e.ps p).op
  log e := e.log
  steps e p := (e.ps p).did - (e.ps p).began
  resp e p := (e.ps p).resp
  beg := beginE
  go := goE

theorem herlM_busy {e : Eg} {p : Nat} : herlM.busy e p = true ↔ (e.ps p).nx ≠ .rest := decide_eq_true_iff

theorem herlM_rest {e : Eg} {p : Nat} : herlM.busy e p = false ↔ (e.ps p).nx = .rest := by
  show decide ((e.ps p).nx ≠ .rest) = false ↔ _
  simp

theorem herlM_ok : ModOk herlM := by
  refine ⟨?_, ?_, ?_, ?_⟩
  · rintro e p o ⟨g, h⟩ hp hb _
    have hx := herlM_rest.1 hb
    have hinv := begin_inv h hp hx o
    have e1 : (beginE e p o).ps p = { e.ps p with nx := .announce, seq := (e.ps p).seq + 1, op := o, began := (e.ps p).did } := putN_same _ _ _
    refine ⟨⟨g, hinv⟩, rfl, rfl, ⟨?_, herlM_busy.2 ?_, ?_, ?_⟩, fun q hq hn => ?_⟩
    · show ((beginE e p o).ps p).seq = _
      rw [e1]
      rfl
    · show ((beginE e p o).ps p).nx ≠ _
      rw [e1]
      nofun
    · show ((beginE e p o).ps p).op = _
      rw [e1]
    · show ((beginE e p o).ps p).did - ((beginE e p o).ps p).began = 0
      rw [e1]
      exact Nat.sub_self _
    · have e2 : (beginE e p o).ps q = e.ps q := putN_other _ _ hn
      refine ⟨?_, ?_, fun hbq => ?_, ?_⟩
      · show ((beginE e p o).ps q).seq = _
        rw [e2]
        rfl
      · show decide (((beginE e p o).ps q).nx ≠ .rest) = _
        rw [e2]
        rfl
      · show ((beginE e p o).ps q).op = (e.ps q).op
        rw [e2]
      · show ((beginE e p o).ps q).did - ((beginE e p o).ps q).began = _
        rw [e2]
        rfl
  · rintro e p ⟨g, h⟩ hp hb
    have hx := herlM_busy.1 hb
    have G := go_gone hx
    have b := steps_bound h hp
    refine ⟨go_inv h hp, G.n, ?_, fun q hq => ⟨?_, fun _ => ?_, fun hn => ⟨?_, ?_⟩⟩⟩
    · show ((goE e p).ps p).did - ((goE e p).ps p).began = (e.ps p).did - (e.ps p).began + 1
      rw [G.did, G.began]
      omega
    · show ((goE e p).ps q).seq = (e.ps q).seq
      by_cases a : q = p
      · rw [a]; exact G.seq
      · rw [G.other q a]
    · show ((goE e p).ps q).op = (e.ps q).op
      by_cases a : q = p
      · rw [a, G.op]
      · rw [G.other q a]
    · show decide (((goE e p).ps q).nx ≠ .rest) = decide ((e.ps q).nx ≠ .rest)
      rw [G.other q hn]
    · show ((goE e p).ps q).did - ((goE e p).ps q).began = (e.ps q).did - (e.ps q).began
      rw [G.other q hn]
  · rintro e p ⟨g, h⟩ hp hb
    obtain ⟨new, h1, h2, h3⟩ := go_log h hp
    refine ⟨new, h1, fun r hr => ?_, h3⟩
    obtain ⟨q, h4, h5, h6⟩ := h2 r hr
    exact ⟨q, h4, herlM_busy.2 h5, h6⟩
  · rintro e p ⟨g, h⟩ hp hb hd
    exact go_done h hp (herlM_busy.1 hb) (herlM_rest.1 hd)

def bound12 (n : Nat) : Nat := 12 * (n + 1) * (n + 1)

theorem herlM_bd : ModBd herlM bound12 := by
  refine ⟨?_⟩
  rintro e p ⟨g, h⟩ hp
  have b := steps_bound h hp
  have n1 := h.G.n1
  have hm : 2 * e.n + 6 < 12 * (e.n + 1) * (e.n + 1) := by
    have h1 : 24 * (e.n + 1) ≤ 12 * (e.n + 1) * (e.n + 1) := by
      have : 12 * (e.n + 1) * 2 ≤ 12 * (e.n + 1) * (e.n + 1) := Nat.mul_le_mul_left _ (by omega)
      omega
    omega
  show (e.ps p).did - (e.ps p).began ≤ bound12 e.n ∧ (_ → (e.ps p).did - (e.ps p).began < bound12 e.n)
  unfold bound12
  exact ⟨by omega, fun _ => by omega⟩

theorem herlM_fresh {s : St} (hs : MayS s) {n : Nat} (h1 : 1 ≤ n) : Fresh herlM n (newEg s n) :=
  ⟨⟨_, newEg_inv s hs n h1⟩, rfl, fun _ _ => rfl, fun _ _ => rfl, fun _ _ => rfl, rfl⟩

end Go.Proofs.Ytedfacbngefhnaa

/- What a call changes of what was there, told by a set of blocks; blocks of cells. -/
namespace Go.Proofs.Ytedfacbngefhnaa
open Go.RowKit

/-- Of what was there only blocks of F are changed. -/
structure Only (F : Nat → Prop) (w w' : World) : Prop where
  os : w'.os = w.os
  tape : w'.tape = w.tape
  output : w'.output = w.output
  size : w.heap.size ≤ w'.heap.size
  block : ∀ k, k < w.heap.size → ¬ F k → w'.heap[k]? = w.heap[k]?

theorem Only.refl (F : Nat → Prop) (w : World) : Only F w w := ⟨rfl, rfl, rfl, Nat.le_refl _, fun _ _ _ => rfl⟩

theorem Only.trans {F G : Nat → Prop} {a b c : World} (h : Only F a b) (k : Only G b c) (hG : ∀ x, x < a.heap.size → G x → F x) : Only F a c :=
  ⟨k.os.trans h.os, k.tape.trans h.tape, k.output.trans h.output, Nat.le_trans h.size k.size, fun i hi hn => (k.block i (Nat.lt_of_lt_of_le hi h.size) (fun hg => hn (hG i hi hg))).trans (h.block i hi hn)⟩

theorem Only.mono {F G : Nat → Prop} {w w' : World} (h : Only F w w') (hG : ∀ k, F k → G k) : Only G w w' := ⟨h.os, h.tape, h.output, h.size, fun k hk hn => h.block k hk fun hf => hn (hG k hf)⟩

theorem Only.ofGrown {F : Nat → Prop} {w w' : World} {row : Option Nat} (h : w.grownBy w' row) (hr : ∀ k, row = some k → k < w.heap.size → F k) : Only F w w' :=
  ⟨h.os, h.tape, h.output, h.size, fun k hk hn => h.block k hk fun e => hn (hr k e.symm hk)⟩

theorem Only.ofBelow {F : Nat → Prop} {w w' : World} (h : Below w.heap.size w w') : Only F w w' := ⟨h.os, h.tape, h.output, h.size, fun k hk _ => h.block k hk⟩

theorem Only.below {F : Nat → Prop} {w w' : World} {B : Nat} (h : Only F w w') (hB : B ≤ w.heap.size) (hF : ∀ k, F k → B ≤ k) : Below B w w' :=
  ⟨h.os, h.tape, h.output, h.size, fun k hk => h.block k (Nat.lt_of_lt_of_le hk hB) fun hf => by have := hF k hf; omega⟩

theorem Only.setCell {F : Nat → Prop} {a w : World} (h : Only F a w) {b : Nat} (i : Nat) (hb : b < a.heap.size → F b) (x : Value) : Only F a (w.setCell ⟨b, i, none⟩ x) := by
  have hb0 := (Below.refl 0 w).setCell (p := ⟨b, i, none⟩) (Nat.zero_le _) x
  refine ⟨hb0.os.trans h.os, hb0.tape.trans h.tape, hb0.output.trans h.output, Nat.le_trans h.size hb0.size, fun k hk hn => ?_⟩
  rw [Below.heap_setCell _ _ _ _ (show k ≠ b by rintro rfl; exact hn (hb hk))]
  exact h.block k hk hn

theorem Only.alloc {F : Nat → Prop} {a w : World} (h : Only F a w) (o : Obj) : Only F a (w.alloc o) :=
  h.trans (G := fun _ => False) (Only.ofBelow ((Below.refl _ _).alloc (Nat.le_refl _) o)) (fun _ _ hf => hf.elim)

theorem Only.drewN {F : Nat → Prop} {a w : World} (h : Only F a w) (n : Nat) : Only F a (w.drewN n) := ⟨h.os, h.tape, h.output, h.size, h.block⟩

theorem RdI.only {w w' : World} {v : Value} {l : List Int} (h : RdI w v l) {F : Nat → Prop} (ho : Only F w w') (hv : ∀ k, v.ownBlock = some k → ¬ F k) : RdI w' v l := by
  obtain ⟨ao, cap, rfl, h2, h3, hn, hi, h4⟩ := h
  refine ⟨ao, cap, rfl, h2, h3, hn, hi, ?_⟩
  rcases h4 with h4 | ⟨b, off, rfl, h6⟩
  · exact .inl h4
  · refine .inr ⟨b, off, rfl, fun j hj => ?_⟩
    have hc := h6 j hj
    have hlt : b < w.heap.size := World.block_lt_of_cell? w ⟨b, off + j, none⟩ hc
    rw [World.cell?_of_block (a := ⟨b, off + j, none⟩) (ho.block b hlt (hv b rfl))]
    exact hc

theorem RdI.onlyE {w w' : World} {v : Value} {l : List Int} (h : RdI w v l) {F : Nat → Prop} (ho : Only F w w') (hv : l = [] ∨ ∀ k, v.ownBlock = some k → ¬ F k) : RdI w' v l := by
  rcases hv with rfl | hv
  · obtain ⟨ao, cap, rfl, h2, h3, hn, hi, h4⟩ := h
    exact ⟨ao, cap, rfl, h2, h3, hn, hi, .inl rfl⟩
  · exact h.only ho hv

/-- A block of cells. -/
def Bk (t : TypeId) (w : World) (b : Nat) (cs : Array Value) : Prop := w.heap[b]? = some (.cells cs t (0, 0))

theorem Bk.lt {t : TypeId} {w : World} {b : Nat} {cs : Array Value} (h : Bk t w b cs) : b < w.heap.size := (Array.getElem?_eq_some_iff.1 h).1

theorem Bk.keep {t : TypeId} {w w' : World} {b : Nat} {cs : Array Value} (h : Bk t w b cs) (hk : w'.heap[b]? = w.heap[b]?) : Bk t w' b cs := hk.trans h

theorem Bk.cell {t : TypeId} {w : World} {b : Nat} {cs : Array Value} (h : Bk t w b cs) (j : Nat) {x : Value} (hx : cs[j]? = some x) : w.cell? ⟨b, j, none⟩ = some x ∧ w.frozen? ⟨b, j, none⟩ = false :=
  ⟨(cell_of_row w b j _ _ _ h).trans hx, frozen_of_row w b j _ _ h⟩

theorem Bk.set {t : TypeId} {w : World} {b : Nat} {cs : Array Value} (h : Bk t w b cs) (j : Nat) (x : Value) : Bk t (w.setCell ⟨b, j, none⟩ x) b (cs.setIfInBounds j x) := by
  have := heap_setCell_same w b j _ _ x h
  unfold Bk
  simpa using this

theorem Bk.other {t : TypeId} {w : World} {b : Nat} {cs : Array Value} (h : Bk t w b cs) (c j : Nat) (x : Value) (hne : b ≠ c) : Bk t (w.setCell ⟨c, j, none⟩ x) b cs :=
  (Below.heap_setCell _ _ _ _ hne).trans h

theorem Bk.ne {t t' : TypeId} {w : World} {b b' : Nat} {cs cs' : Array Value} (h : Bk t w b cs) (h' : Bk t' w b' cs') (ht : t ≠ t') : b ≠ b' := by
  rintro rfl
  unfold Bk at h h'
  rw [h] at h'
  simp only [Option.some.injEq, Obj.cells.injEq] at h'
  exact ht h'.2.1

/-- Of a row, if there is one. -/
theorem ownBk {w : World} {base n : Nat} {t : TypeId} {v : Value} {xs : List Value} (h : w.ownsRow base t 1 v n xs) {g : Nat} (hg : v.ownBlock = some g) : ∃ cs, Bk t w g cs := by
  rcases h.2 with ⟨hv, _⟩ | ⟨g', cap, cur, hv, _, hb, _⟩
  · rw [hv] at hg; cases hg
  · rw [hv] at hg
    obtain rfl : g' = g := by simpa [Value.ownBlock] using hg
    exact ⟨cur, hb⟩

theorem ownsRow_keep {w w' : World} {base n s : Nat} {t : TypeId} {v : Value} {xs : List Value} (h : w.ownsRow base t s v n xs) (hk : ∀ g, v.ownBlock = some g → w'.heap[g]? = w.heap[g]?) : w'.ownsRow base t s v n xs := by
  obtain ⟨h1, h2⟩ := h
  refine ⟨h1, ?_⟩
  rcases h2 with h2 | ⟨g, cap, cur, hv, hbg, hg, r⟩
  · exact .inl h2
  · exact .inr ⟨g, cap, cur, hv, hbg, (hk g (by rw [hv]; rfl)).trans hg, r⟩

/-- A pointer to a block. -/
abbrev ptr (b : Nat) : Value := .pointer (some ⟨b, 0, none⟩)

end Go.Proofs.Ytedfacbngefhnaa

/- A map from numbers to numbers that a call makes, as a function. -/
namespace Go.Proofs.Ytedfacbngefhnaa
open Go.RowKit Go.Maps

theorem mapKeys : Keyed Try.prog 3 := int_keyed Try.underlying3

theorem mapZero (w : World) : (zeroValue 3).run Try.prog w = .ok (.int .i64 0) w := by kernel_rfl

theorem wf64 {n : Int} (h : I64 n) : (Lit.int .i64 n).wf = true := WalkArith.wf_i64 (by obtain ⟨h0, h1⟩ := h; omega)

/-- Block b is a map of at most n entries; f tells what each number has (0: what is not there). -/
def MapI (w : World) (b n : Nat) (f : Int → Int) : Prop :=
  ∃ D : DataW Unit, w.ownsMap Try.prog 3 (plainElem Try.prog 3) b n D ∧ IsMap D ∧ ∀ p, I64 p → D.atKey (.int .i64 p) (.lit (.int .i64 0)) = .lit (.int .i64 (f p))

theorem MapI.made (w : World) : MapI (w.alloc (.map #[] 0)) w.heap.size 0 (fun _ => 0) :=
  ⟨.map [], World.ownsMap_made _ _ _ _, isMap_empty, fun _ _ => rfl⟩

theorem MapI.lt {w : World} {b n : Nat} {f : Int → Int} (h : MapI w b n f) : b < w.heap.size := by
  obtain ⟨D, h1, _⟩ := h
  exact h1.lt

theorem MapI.keep {w w' : World} {b n : Nat} {f : Int → Int} (h : MapI w b n f) (hk : w'.heap[b]? = w.heap[b]?) : MapI w' b n f := by
  obtain ⟨D, ⟨es, clock, hb, r⟩, h2⟩ := h
  exact ⟨D, ⟨es, clock, hk.trans hb, r⟩, h2⟩

theorem MapI.mono {w : World} {b n n' : Nat} {f : Int → Int} (h : MapI w b n f) (hn : n ≤ n') : MapI w b n' f := by
  obtain ⟨D, h1, h2⟩ := h
  exact ⟨D, h1.mono hn, h2⟩

theorem MapI.below {w w' : World} {b n B : Nat} {f : Int → Int} (h : MapI w b n f) (hb : Below B w w') (hB : w.heap.size ≤ B) : MapI w' b n f :=
  h.keep (hb.block b (by have := h.lt; omega))

theorem MapI.fun {w : World} {b n : Nat} {f g : Int → Int} (h : MapI w b n f) (e : ∀ p, f p = g p) : MapI w b n g := by
  have : f = g := funext e
  rw [← this]
  exact h

/-- A map is no row. -/
theorem MapI.apart {w : World} {b n : Nat} {f : Int → Int} (h : MapI w b n f) {cs : Array Value} {t : TypeId} {z : Nat × Nat} {g : Nat} (hg : w.heap[g]? = some (.cells cs t z)) : g ≠ b := by
  obtain ⟨D, ⟨es, clock, hb, _⟩, _⟩ := h
  intro e
  rw [e, hb] at hg
  cases hg

theorem MapI.look {w : World} {b n : Nat} {f : Int → Int} (h : MapI w b n f) {p : Int} (hp : I64 p) : (Instr.lookup 83 (.map (some b)) (.int .i64 p) false).run Try.prog w = .ok (.int .i64 (f p)) w := by
  obtain ⟨D, h1, _, h3⟩ := h
  obtain ⟨c, hrun, hat, _⟩ := h1.lookup_int mapKeys Try.underlying83 Try.underlying3 (mapZero _) (keyOf_int_mk Try.underlying3 (wf64 hp))
  rw [h3 p hp] at hat
  have e : f p = c := by simpa using hat
  rw [hrun, e]

/-- What is stored. -/
def putF (f : Int → Int) (p x : Int) : Int → Int := fun q => if p = q then x else f q

theorem MapI.put {w : World} {b n : Nat} {f : Int → Int} (h : MapI w b n f) {p x : Int} (hp : I64 p) (hx : I64 x) (hn : n ≤ 1000000000000) :
    ∃ w', (Instr.mapUpdate 83 (.map (some b)) (.int .i64 p) (.int .i64 x)).run Try.prog w = .ok () w' ∧ MapI w' b (n + 1) (putF f p x) ∧ w.grownBy w' (some b) := by
  obtain ⟨D, h1, h2, h3⟩ := h
  obtain ⟨w', hrun, ho, hg⟩ := h1.update mapKeys Try.underlying83 (by unfold maxLen; omega) (keyOf_int_mk Try.underlying3 (wf64 hp)) (plainElem_int Try.underlying3 (wf64 hx))
  refine ⟨w', hrun, ⟨_, ho, h2.put _ _, fun q hq => ?_⟩, hg⟩
  unfold putF
  by_cases e : p = q
  · rw [if_pos e, ← e, atKey_put_same h2 (by first | exact trivial | simp [WideAt.IsKeyLit])]
  · rw [if_neg e, atKey_put_other (by intro h; injection h with _ h; exact e h.symm), h3 q hq]

end Go.Proofs.Ytedfacbngefhnaa

/- A machine of the landed text in memory: cells that processes share. -/
namespace Go.Proofs.Ytedfacbngefhnaa
open Go.RowKit Go.Maps

/-- A machine as plain data: how many processes, how many cells, what each cell has, how many accesses each process had. -/
structure Mc where
  procs : Int
  len : Nat
  c : Int → Int
  s : Int → Int

def newM (procs : Int) : Mc := ⟨procs, 0, fun _ => 0, fun _ => 0⟩

/-- Is it one of the first so many? -/
def inM (n count : Int) : Bool := decide (0 ≤ n ∧ n < count)

def stepM (M : Mc) (p : Int) : Int → Int := if inM p M.procs = true then putF M.s p (M.s p + 1) else M.s

/-- An access: g tells what the cell has behind it. -/
def accM (M : Mc) (p cell : Int) (g : Int → Int) : Mc :=
  { M with s := stepM M p, c := if inM cell M.len = true then putF M.c cell (g (M.c cell)) else M.c }

def cellsM (M : Mc) (n : Int) : Mc := if 1 ≤ n ∧ n ≤ 1048576 then { M with len := M.len + n.toNat } else M

/-- What may be: N bounds how many accesses there were. -/
structure OkM (M : Mc) (N : Nat) : Prop where
  procs : I64 M.procs
  len : M.len ≤ 1000000000000000
  c : ∀ q, I64 (M.c q)
  c0 : ∀ q, inM q M.len = false → M.c q = 0
  s : ∀ p, 0 ≤ M.s p ∧ M.s p ≤ N
  s0 : ∀ p, inM p M.procs = false → M.s p = 0

theorem OkM.new {procs : Int} (h : I64 procs) : OkM (newM procs) 0 := ⟨h, Nat.zero_le _, fun _ => (⟨by decide, by decide⟩ : I64 0), fun _ _ => rfl, fun _ => ⟨Int.le_refl _, Int.le_refl _⟩, fun _ _ => rfl⟩

theorem OkM.mono {M : Mc} {N N' : Nat} (h : OkM M N) (hN : N ≤ N') : OkM M N' := ⟨h.procs, h.len, h.c, h.c0, fun p => ⟨(h.s p).1, by have := (h.s p).2; omega⟩, h.s0⟩

theorem putF_same (f : Int → Int) (p x : Int) : putF f p x p = x := if_pos rfl

theorem putF_other (f : Int → Int) {p q : Int} (x : Int) (h : p ≠ q) : putF f p x q = f q := if_neg h

theorem putF_self (f : Int → Int) (p : Int) : putF f p (f p) = f := by
  funext q
  unfold putF
  by_cases e : p = q
  · rw [if_pos e, e]
  · rw [if_neg e]

theorem OkM.step {M : Mc} {N : Nat} (h : OkM M N) (p : Int) : OkM { M with s := stepM M p } (N + 1) := by
  refine ⟨h.procs, h.len, h.c, h.c0, fun q => ?_, fun q hq => ?_⟩
  · have h1 := h.s p
    have h2 := h.s q
    show 0 ≤ stepM M p q ∧ stepM M p q ≤ _
    unfold stepM putF
    split
    · dsimp only
      split <;> omega
    · omega
  · show stepM M p q = 0
    unfold stepM putF
    split
    · rename_i hp
      dsimp only
      split
      · rename_i e
        rw [e] at hp
        exact absurd (hp.symm.trans hq) (by decide)
      · exact h.s0 q hq
    · exact h.s0 q hq

theorem OkM.acc {M : Mc} {N : Nat} (h : OkM M N) (p cell : Int) (g : Int → Int) (hg : inM cell M.len = true → I64 (g (M.c cell))) : OkM (accM M p cell g) (N + 1) := by
  have h' := h.step p
  refine ⟨h'.procs, h'.len, fun q => ?_, fun q hq => ?_, h'.s, h'.s0⟩
  · show I64 ((if inM cell M.len = true then putF M.c cell (g (M.c cell)) else M.c) q)
    split
    · rename_i hc
      unfold putF
      split
      · exact hg hc
      · exact h.c q
    · exact h.c q
  · show (if inM cell M.len = true then putF M.c cell (g (M.c cell)) else M.c) q = 0
    split
    · rename_i hc
      unfold putF
      split
      · rename_i e
        rw [e] at hc
        exact absurd (hc.symm.trans hq) (by decide)
      · exact h.c0 q hq
    · exact h.c0 q hq

theorem OkM.cells {M : Mc} {N : Nat} (h : OkM M N) (n : Int) (hn : M.len + n.toNat ≤ 1000000000000000) : OkM (cellsM M n) N := by
  unfold cellsM
  split
  · refine ⟨h.procs, hn, h.c, fun q hq => h.c0 q ?_, h.s, h.s0⟩
    unfold inM at *
    simp only [decide_eq_false_iff_not] at *
    omega
  · exact h

/-- A machine's head. -/
def headM (mc ms : Nat) (M : Mc) : Array Value := #[.int .i64 M.procs, .int .i64 (M.len : Int), .map (some mc), .map (some ms)]

/-- A machine at p, whose maps lie in the blocks mc, ms. -/
structure MacL (w : World) (p mc ms : Nat) (M : Mc) (N : Nat) : Prop where
  head : Bk 85 w p (headM mc ms M)
  cells : MapI w mc N M.c
  steps : MapI w ms N M.s
  ne : mc ≠ ms
  ok : OkM M N

/-- A machine no block of which is in K. -/
def Mac (K : Nat → Prop) (w : World) (p : Nat) (M : Mc) (N : Nat) : Prop := ∃ mc ms, MacL w p mc ms M N ∧ ¬ K p ∧ ¬ K mc ∧ ¬ K ms

theorem MacL.keep {w w' : World} {p mc ms : Nat} {M : Mc} {N : Nat} (h : MacL w p mc ms M N) (h1 : w'.heap[p]? = w.heap[p]?) (h2 : w'.heap[mc]? = w.heap[mc]?) (h3 : w'.heap[ms]? = w.heap[ms]?) : MacL w' p mc ms M N :=
  ⟨h.head.keep h1, h.cells.keep h2, h.steps.keep h3, h.ne, h.ok⟩

/-- What changes but blocks of K leaves it. -/
theorem Mac.only {K G : Nat → Prop} {w w' : World} {p : Nat} {M : Mc} {N : Nat} (h : Mac K w p M N) (ho : Only G w w') (hG : ∀ k, k < w.heap.size → G k → K k) : Mac K w' p M N := by
  obtain ⟨mc, ms, h, k1, k2, k3⟩ := h
  exact ⟨mc, ms, h.keep (ho.block _ h.head.lt fun g => k1 (hG _ h.head.lt g)) (ho.block _ h.cells.lt fun g => k2 (hG _ h.cells.lt g)) (ho.block _ h.steps.lt fun g => k3 (hG _ h.steps.lt g)), k1, k2, k3⟩

theorem Mac.ok {K : Nat → Prop} {w : World} {p : Nat} {M : Mc} {N : Nat} (h : Mac K w p M N) : OkM M N := by
  obtain ⟨mc, ms, h, _⟩ := h
  exact h.ok

theorem MacL.mono {w : World} {p mc ms : Nat} {M : Mc} {N N' : Nat} (h : MacL w p mc ms M N) (hN : N ≤ N') : MacL w p mc ms M N' :=
  ⟨h.head, h.cells.mono hN, h.steps.mono hN, h.ne, h.ok.mono hN⟩

theorem Mac.mono {K : Nat → Prop} {w : World} {p : Nat} {M : Mc} {N N' : Nat} (h : Mac K w p M N) (hN : N ≤ N') : Mac K w p M N' := by
  obtain ⟨mc, ms, h, k⟩ := h
  exact ⟨mc, ms, ⟨h.head, h.cells.mono hN, h.steps.mono hN, h.ne, h.ok.mono hN⟩, k⟩

theorem Mac.weaken {K K' : Nat → Prop} {w : World} {p : Nat} {M : Mc} {N : Nat} (h : Mac K w p M N) (hK : ∀ k, k < w.heap.size → K' k → K k) : Mac K' w p M N := by
  obtain ⟨mc, ms, h, k1, k2, k3⟩ := h
  exact ⟨mc, ms, h, fun g => k1 (hK _ h.head.lt g), fun g => k2 (hK _ h.cells.lt g), fun g => k3 (hK _ h.steps.lt g)⟩

/-- All that lies not yet may be put into K. -/
theorem Mac.fresh {K : Nat → Prop} {w : World} {p : Nat} {M : Mc} {N : Nat} (h : Mac K w p M N) (B : Nat) (hB : w.heap.size ≤ B) : Mac (fun k => K k ∨ B ≤ k) w p M N :=
  h.weaken fun k hk h => h.elim id fun h => absurd hk (by omega)

theorem Mac.below {K : Nat → Prop} {w w' : World} {p : Nat} {M : Mc} {N : Nat} (h : Mac K w p M N) (hb : Below w.heap.size w w') : Mac K w' p M N :=
  h.only (G := fun _ => False) (Only.ofBelow hb) fun _ _ g => g.elim

theorem Mac.drewN {K : Nat → Prop} {w : World} {p : Nat} {M : Mc} {N : Nat} (h : Mac K w p M N) (n : Nat) : Mac K (w.drewN n) p M N := h.below (below_drewN (Below.refl _ _) n)

end Go.Proofs.Ytedfacbngefhnaa

/- The calls of a machine: what each answers, and what it leaves. -/
namespace Go.Proofs.Ytedfacbngefhnaa
open Go.RowKit Go.Maps

theorem mwrap (n : Int) (h0 : -2251799813685248 ≤ n) (h1 : n ≤ 2251799813685248) : IntKind.i64.wrap n = n := by
  rw [IntKind.wrap_i64]
  omega

set_option maxRecDepth 100000 in
theorem isOf_any (n count : Int) (w : World) :
    Calls Try.prog 50 #[.int .i64 n, .int .i64 count] w fun e w' => e = .returned (.bool (inM n count)) ∧ w' = w := by
  obtain ⟨r, hr⟩ : ∃ r, r = inM n count := ⟨_, rfl⟩
  rw [← hr]
  unfold inM at hr
  have HR := hide hr
  clear hr
  go_enter Try.func50, Try.ntmps50
  by_cases h0 : 0 ≤ n
  · go_wp2
    go_ret
    exact ⟨by rw [HR.out]; congr 3; simp [h0], rfl⟩
  · go_wp2
    go_ret
    exact ⟨by rw [HR.out]; congr 3; simp; omega, rfl⟩

theorem newMac (w : World) (procs : Int) (hp : I64 procs) :
    MacL (((w.alloc (.map #[] 0)).alloc (.map #[] 0)).alloc (.cells (headM w.heap.size (w.heap.size + 1) (newM procs)) 85)) (w.heap.size + 2) w.heap.size (w.heap.size + 1) (newM procs) 0 := by
  have k1 := MapI.made w
  have k2 := MapI.made (w.alloc (.map #[] 0))
  have b1 : Below (w.heap.size + 1) (w.alloc (.map #[] 0)) (((w.alloc (.map #[] 0)).alloc (.map #[] 0)).alloc (.cells (headM w.heap.size (w.heap.size + 1) (newM procs)) 85)) :=
    ((Below.refl _ _).alloc (by simp) _).alloc (by simp) _
  have b2 : Below (w.heap.size + 2) ((w.alloc (.map #[] 0)).alloc (.map #[] 0)) (((w.alloc (.map #[] 0)).alloc (.map #[] 0)).alloc (.cells (headM w.heap.size (w.heap.size + 1) (newM procs)) 85)) :=
    (Below.refl _ _).alloc (by simp) _
  refine ⟨?_, k1.below b1 (by simp), ?_, by omega, OkM.new hp⟩
  · have := heap_alloc_new ((w.alloc (.map #[] 0)).alloc (.map #[] 0)) (.cells (headM w.heap.size (w.heap.size + 1) (newM procs)) 85)
    have e : ((w.alloc (.map #[] 0)).alloc (.map #[] 0)).heap.size = w.heap.size + 2 := by simp
    rw [e] at this
    exact this
  · have e : (w.alloc (.map #[] 0)).heap.size = w.heap.size + 1 := by simp
    rw [e] at k2
    exact k2.below b2 (by simp)

set_option maxRecDepth 100000 in
theorem newM_any (procs : Int) (w : World) (hp : I64 procs) :
    Calls Try.prog 36 #[.int .i64 procs] w fun e w' => ∃ p, e = .returned (ptr p) ∧ w.heap.size ≤ p ∧ Mac (fun k => k < w.heap.size) w' p (newM procs) 0 ∧ Below w.heap.size w w' := by
  have HP := hide (newMac w procs hp)
  have hmm := @run_makeMap Try.prog
  clear hp
  go_enter Try.func36, Try.ntmps36
  go_wp2
  go_ret
  exact ⟨w.heap.size + 2, rfl, by omega, ⟨_, _, HP.out, by omega, by omega, by omega⟩, (((Below.refl _ w).alloc (Nat.le_refl _) _).alloc (by simp) _).alloc (by simp; omega) _⟩

set_option maxRecDepth 100000 in
theorem stepsM_any {w : World} {p mc ms N : Nat} {M : Mc} (h : MacL w p mc ms M N) (q : Int) (hq : I64 q) :
    Calls Try.prog 29 #[ptr p, .int .i64 q] w fun e w' => e = .returned (.int .i64 (M.s q)) ∧ w' = w := by
  have c3 : w.cell? ⟨p, 3, none⟩ = some (.map (some ms)) := (h.head.cell 3 rfl).1
  have hl := h.steps.look hq
  clear h hq
  go_enter Try.func29, Try.ntmps29
  go_wp2
  go_ret
  exact ⟨rfl, rfl⟩

theorem MacL.setLen {w : World} {p mc ms N : Nat} {M : Mc} (h : MacL w p mc ms M N) (n : Nat) (hok : OkM { M with len := n } N) : MacL (w.setCell ⟨p, 1, none⟩ (.int .i64 (n : Int))) p mc ms { M with len := n } N := by
  have hp1 : mc ≠ p := (h.cells.apart h.head).symm
  have hp2 : ms ≠ p := (h.steps.apart h.head).symm
  exact ⟨h.head.set 1 _, h.cells.keep (Below.heap_setCell _ _ _ _ hp1), h.steps.keep (Below.heap_setCell _ _ _ _ hp2), h.ne, hok⟩

set_option maxRecDepth 100000 in
theorem cellsM_any {w : World} {p mc ms N : Nat} {M : Mc} (h : MacL w p mc ms M N) (n : Int) (hl : M.len + n.toNat ≤ 1000000000000000) :
    Calls Try.prog 37 #[ptr p, .int .i64 n] w fun e w' => e = .returned (.int .i64 (M.len : Int)) ∧ MacL w' p mc ms (cellsM M n) N ∧ Only (fun k => k = p) w w' := by
  obtain ⟨c1, f1⟩ := h.head.cell 1 rfl
  have HM := hide h
  have HOK := hide (h.ok.cells n hl)
  obtain ⟨L, hL⟩ : ∃ L : Int, L = (M.len : Int) := ⟨_, rfl⟩
  have hL0 : 0 ≤ L ∧ L + n ≤ 1000000000000000 := by omega
  have HL := hide hL
  have c1' : w.cell? ⟨p, 1, none⟩ = some (.int .i64 L) := by rw [hL]; exact c1
  rw [← hL]
  clear h hl hL c1
  by_cases h1 : 1 ≤ n
  · by_cases h2 : n ≤ 1048576
    · have HE : Hid (cellsM M n = { M with len := M.len + n.toNat }) := if_pos ⟨h1, h2⟩
      have HK := hide h1
      go_enter Try.func37, Try.ntmps37
      go_wp2
      go_ret
      have e : ((M.len + n.toNat : Nat) : Int) = L + n := by have := HK.out; rw [HL.out]; omega
      refine ⟨rfl, ?_, (Only.refl (fun k => k = p) _).setCell 1 (fun _ => rfl) _⟩
      have hk := HOK.out
      rw [HE.out] at hk ⊢
      have := HM.out.setLen _ hk
      rw [e] at this
      exact this
    · have HE : Hid (cellsM M n = M) := if_neg (by omega)
      go_enter Try.func37, Try.ntmps37
      go_wp2
      go_ret
      exact ⟨rfl, by rw [HE.out]; exact HM.out, Only.refl _ _⟩
  · have HE : Hid (cellsM M n = M) := if_neg (by omega)
    go_enter Try.func37, Try.ntmps37
    go_wp2
    go_ret
    exact ⟨rfl, by rw [HE.out]; exact HM.out, Only.refl _ _⟩

end Go.Proofs.Ytedfacbngefhnaa

/- An access of a machine: a step, and what a function that is handed over makes of the cell. -/
namespace Go.Proofs.Ytedfacbngefhnaa
open Go.RowKit Go.Maps

theorem accM_out {M : Mc} {q cell : Int} {g : Int → Int} (h : inM cell M.len = false) : accM M q cell g = { M with s := stepM M q } := by
  unfold accM
  rw [h]
  rfl

theorem accM_in {M : Mc} {q cell : Int} {g : Int → Int} (h : inM cell M.len = true) : accM M q cell g = { M with s := stepM M q, c := putF M.c cell (g (M.c cell)) } := by
  unfold accM
  rw [h]
  rfl

theorem accM_id {M : Mc} {q cell : Int} {g : Int → Int} (h : g (M.c cell) = M.c cell) : accM M q cell g = { M with s := stepM M q } := by
  unfold accM
  rw [h, putF_self]
  split <;> rfl

/-- The step is counted. -/
theorem MacL.step {w : World} {p mc ms N : Nat} {M : Mc} (h : MacL w p mc ms M N) (hN : N ≤ 1000000000000) (q : Int) (hq : I64 q) (hin : inM q M.procs = true) :
    ∃ w', (Instr.mapUpdate 83 (.map (some ms)) (.int .i64 q) (.int .i64 (M.s q + 1))).run Try.prog w = .ok () w' ∧ MacL w' p mc ms { M with s := stepM M q } (N + 1) ∧ Only (fun k => k = ms) w w' := by
  have hs := h.ok.s q
  obtain ⟨w', hrun, hm, hg⟩ := h.steps.put hq (x := M.s q + 1) ⟨by omega, by omega⟩ hN
  refine ⟨w', hrun, ⟨h.head.keep (hg.block _ h.head.lt ?_), (h.cells.keep (hg.block _ h.cells.lt ?_)).mono (Nat.le_succ _), ?_, h.ne, h.ok.step q⟩, Only.ofGrown hg fun k hk _ => by cases hk; rfl⟩
  · exact fun e => (h.steps.apart h.head) (Option.some.inj e)
  · exact fun e => h.ne (Option.some.inj e)
  · show MapI w' ms (N + 1) (stepM M q)
    unfold stepM
    rw [if_pos hin]
    exact hm

/-- A cell is changed. -/
theorem MacL.put {w : World} {p mc ms N : Nat} {M : Mc} (h : MacL w p mc ms M N) (N' : Nat) (hN : N ≤ 1000000000000) (hN' : N + 1 ≤ N') (cell x : Int) (hc : I64 cell) (hx : I64 x) (hin : inM cell M.len = true) :
    ∃ w', (Instr.mapUpdate 83 (.map (some mc)) (.int .i64 cell) (.int .i64 x)).run Try.prog w = .ok () w' ∧ MacL w' p mc ms { M with c := putF M.c cell x } N' ∧ Only (fun k => k = mc) w w' := by
  obtain ⟨w', hrun, hm, hg⟩ := h.cells.put hc hx hN
  refine ⟨w', hrun, ⟨h.head.keep (hg.block _ h.head.lt ?_), hm.mono hN', (h.steps.keep (hg.block _ h.steps.lt ?_)).mono (by omega), h.ne, ?_⟩, Only.ofGrown hg fun k hk _ => by cases hk; rfl⟩
  · exact fun e => (h.cells.apart h.head) (Option.some.inj e)
  · exact fun e => h.ne (Option.some.inj e).symm
  · have hk := h.ok.mono (show N ≤ N' by omega)
    refine ⟨hk.procs, hk.len, fun k => ?_, fun k hk0 => ?_, hk.s, hk.s0⟩
    · show I64 (putF M.c cell x k)
      unfold putF
      split
      · exact hx
      · exact hk.c k
    · show putF M.c cell x k = 0
      unfold putF
      split
      · rename_i e
        rw [e] at hin
        exact absurd (hin.symm.trans hk0) (by decide)
      · exact hk.c0 k hk0

set_option maxRecDepth 100000 in
set_option maxHeartbeats 1000000 in
theorem access_any {w : World} {p mc ms N : Nat} {M : Mc} (h : MacL w p mc ms M N) (hN : N ≤ 100000000000) (q cell : Int) (hq : I64 q) (hc : I64 cell) (g : Int → Int) (hgi : I64 (g (M.c cell)))
    (fn : Nat) (cp : Array Value) (eg : ∀ args W, (callFunc fn args).run Try.prog W = .ok (.enter fn args) W)
    (F : Nat → Prop) (hFp : ¬ F p) (hFc : ¬ F mc) (hFs : ¬ F ms) (P0 P1 : World → Prop) (h0 : P0 w) (s0 : ∀ W W', Only (fun k => k = ms) W W' → P0 W → P0 W') (s1 : ∀ W W', Only (fun k => k = mc) W W' → P1 W → P1 W')
    (hF : ∀ W, P0 W → Calls Try.prog fn (#[.int .i64 (M.c cell)] ++ cp) W fun e w' => e = .returned (.int .i64 (g (M.c cell))) ∧ P1 w' ∧ Only F W w') :
    Calls Try.prog 44 #[ptr p, .int .i64 q, .int .i64 cell, .func (.func fn) #[] cp] w fun e w' => e = .returned (.tuple #[]) ∧ MacL w' p mc ms (accM M q cell g) (N + 2) ∧ Only (fun k => k = mc ∨ k = ms ∨ F k) w w' ∧ (inM cell M.len = true → P1 w') ∧ (inM cell M.len = false → P0 w') := by
  have HM := hide h
  have HF := hide hF
  have HS0 := hide s0
  have HS1 := hide s1
  have HP0 := hide h0
  have HQ := hide hq
  have HC := hide hc
  have HGI := hide hgi
  have HFN := hide (And.intro hFp (And.intro hFc hFs))
  have c0 : w.cell? ⟨p, 0, none⟩ = some (.int .i64 M.procs) := (h.head.cell 0 rfl).1
  have c3 : w.cell? ⟨p, 3, none⟩ = some (.map (some ms)) := (h.head.cell 3 rfl).1
  have hl := h.steps.look hq
  have hsb := h.ok.s q
  have hsw : IntKind.i64.wrap (M.s q + 1) = M.s q + 1 := mwrap _ (by omega) (by omega)
  obtain ⟨S, hS⟩ : ∃ S, S = M.s q := ⟨_, rfl⟩
  have HSE := hide hS
  rw [← hS] at hl hsb hsw
  have hsb' : 0 ≤ S ∧ S ≤ 100000000000 := by omega
  clear h hF s0 s1 h0 hq hc hgi hFp hFc hFs hS hsb
  have HI := hide (isOf_any q M.procs w)
  obtain ⟨X, hX⟩ : ∃ X, X = M.c cell := ⟨_, rfl⟩
  obtain ⟨Y, hY⟩ : ∃ Y, Y = g (M.c cell) := ⟨_, rfl⟩
  have HX := hide hX
  have HY := hide hY
  rw [← hY] at HF HGI
  rw [← hX] at HF
  clear hX hY
  have HSO0 := hide (Only.refl (fun k => k = ms) w)
  obtain ⟨w0, hw0⟩ : ∃ w0, w0 = w := ⟨_, rfl⟩
  obtain ⟨b1, hb1⟩ : ∃ b1, b1 = inM q M.procs := ⟨_, rfl⟩
  rw [← hb1] at HI
  have HB1 := hide hb1
  clear hb1
  have HO : Hid (Only (fun k => k = ms) w0 w) := by rw [hw0]; exact HSO0
  have HGO : Calls Try.prog 44 #[ptr p, .int .i64 q, .int .i64 cell, .func (.func fn) #[] cp] w fun e w' => e = .returned (.tuple #[]) ∧ MacL w' p mc ms (accM M q cell g) (N + 2) ∧ Only (fun k => k = mc ∨ k = ms ∨ F k) w0 w' ∧ (inM cell M.len = true → P1 w') ∧ (inM cell M.len = false → P0 w') := by
    clear hw0 HSO0
    go_enter Try.func44, Try.ntmps44
    go_wp2_with fail
    refine HI.out.mono ?_
    rintro e w1 ⟨rfl, rfl⟩
    clear HI
    have H2 : Hid (∃ w2, (b1 = true → (Instr.mapUpdate 83 (.map (some ms)) (.int .i64 q) (.int .i64 (S + 1))).run Try.prog w1 = .ok () w2) ∧ (b1 = false → w2 = w1) ∧ MacL w2 p mc ms { M with s := stepM M q } (N + 1) ∧ Only (fun k => k = ms) w0 w2) := by
      cases b1 with
      | true =>
        obtain ⟨w2, hrun, hm2, ho2⟩ := HM.out.step (by omega) q HQ.out HB1.out.symm
        rw [← HSE.out] at hrun
        exact ⟨w2, (fun _ => hrun), (fun h => by cases h), hm2, HO.out.trans ho2 fun _ _ h => h⟩
      | false =>
        have e : stepM M q = M.s := if_neg (by rw [← HB1.out]; decide)
        exact ⟨w1, (fun h => by cases h), (fun _ => rfl), by rw [e]; exact HM.out.mono (Nat.le_succ N), HO.out⟩
    obtain ⟨w2, hr1, hr2, hm2, ho2⟩ := H2.out
    clear H2
    have HM2 := hide hm2
    have HO2 := hide ho2
    have HP2 : Hid (P0 w2) := by
      cases b1 with
      | true => exact HS0.out w1 w2 (by obtain ⟨w2', hrun, _, ho2'⟩ := HM.out.step (by omega) q HQ.out HB1.out.symm; rw [← HSE.out, hr1 rfl] at hrun; cases hrun; exact ho2') HP0.out
      | false => rw [hr2 rfl]; exact HP0
    have c1 : w2.cell? ⟨p, 1, none⟩ = some (.int .i64 (M.len : Int)) := (hm2.head.cell 1 rfl).1
    have c2 : w2.cell? ⟨p, 2, none⟩ = some (.map (some mc)) := (hm2.head.cell 2 rfl).1
    have hl2 : (Instr.lookup 83 (.map (some mc)) (.int .i64 cell) false).run Try.prog w2 = .ok (.int .i64 X) w2 := by rw [HX.out]; exact hm2.cells.look HC.out
    have HI2 := hide (isOf_any cell (M.len : Int) w2)
    obtain ⟨b2, hb2⟩ : ∃ b2, b2 = inM cell (M.len : Int) := ⟨_, rfl⟩
    rw [← hb2] at HI2
    have HB2 := hide hb2
    clear hb2 hm2 ho2
    have HPC : Hid (∀ W W', Only (fun k => k = mc) W W' → P1 W → P1 W') := HS1
    have HFC : Hid (b2 = true → Calls Try.prog fn (#[.int .i64 X] ++ cp) w2 fun e w' => e = .returned (.int .i64 Y) ∧ P1 w' ∧ Only F w2 w') := hide fun _ => HF.out w2 HP2.out
    have HEND0 : Hid (b2 = false → MacL w2 p mc ms (accM M q cell g) (N + 2) ∧ Only (fun k => k = mc ∨ k = ms ∨ F k) w0 w2 ∧ (inM cell M.len = true → P1 w2) ∧ (inM cell M.len = false → P0 w2)) := hide fun h => by
      have h' : inM cell M.len = false := HB2.out.symm.trans h
      exact ⟨by rw [accM_out h']; exact HM2.out.mono (by omega), HO2.out.mono fun k hk => .inr (.inl hk), (fun hh => absurd (hh.symm.trans h') (by decide)), fun _ => HP2.out⟩
    have HEND1 : Hid (∀ w3, b2 = true → P1 w3 → Only F w2 w3 → (Y = X → MacL w3 p mc ms (accM M q cell g) (N + 2) ∧ Only (fun k => k = mc ∨ k = ms ∨ F k) w0 w3 ∧ (inM cell M.len = true → P1 w3) ∧ (inM cell M.len = false → P0 w3)) ∧
        ∃ w4, (Instr.mapUpdate 83 (.map (some mc)) (.int .i64 cell) (.int .i64 Y)).run Try.prog w3 = .ok () w4 ∧ MacL w4 p mc ms (accM M q cell g) (N + 2) ∧ Only (fun k => k = mc ∨ k = ms ∨ F k) w0 w4 ∧ (inM cell M.len = true → P1 w4) ∧ (inM cell M.len = false → P0 w4)) := hide fun w3 h hp3 ho3 => by
      have h' : inM cell M.len = true := HB2.out.symm.trans h
      have hm3 : MacL w3 p mc ms { M with s := stepM M q } (N + 1) := HM2.out.keep (ho3.block _ HM2.out.head.lt HFN.out.1) (ho3.block _ HM2.out.cells.lt HFN.out.2.1) (ho3.block _ HM2.out.steps.lt HFN.out.2.2)
      have hno : ∀ w, inM cell M.len = false → P0 w := fun w hh => absurd (h'.symm.trans hh) (by decide)
      have hall : Only (fun k => k = mc ∨ k = ms ∨ F k) w0 w3 := (HO2.out.mono fun k hk => .inr (.inl hk)).trans ho3 fun k _ hk => .inr (.inr hk)
      refine ⟨fun e => ⟨?_, hall, fun _ => hp3, hno w3⟩, ?_⟩
      · rw [accM_id (by rw [← HY.out, ← HX.out]; exact e)]
        exact hm3.mono (by omega)
      · obtain ⟨w4, hrun, hm4, ho4⟩ := hm3.put (N + 2) (by omega) (by omega) cell Y HC.out HGI.out h'
        refine ⟨w4, hrun, ?_, hall.trans ho4 (fun k _ hk => .inl hk), fun _ => HPC.out _ _ ho4 hp3, hno w4⟩
        rw [accM_in h', ← HY.out]
        exact hm4
    have HC2 : Hid (∀ w3, Only F w2 w3 → w3.cell? ⟨p, 2, none⟩ = some (.map (some mc))) := hide fun w3 ho => by
      have hlt := HM2.out.head.lt
      rw [World.cell?_of_block (a := ⟨p, 2, none⟩) (ho.block p hlt HFN.out.1)]
      exact (HM2.out.head.cell 2 rfl).1
    clear HF HS0 HS1 HP0 HP2 HM HPC HM2 HO2 HX HY HGI HQ HC HFN HSE HB1 HB2 HO
    cases b1
    case' true =>
      have hrun := hr1 rfl
      clear hr1 hr2
      go_upto_region 2 with fail
    case' false =>
      have hrun := hr2 rfl
      subst hrun
      clear hr1 hr2
      go_upto_region 2 with fail
    all_goals
      try clear hrun
      go_wp2_with fail
      refine HI2.out.mono ?_
      rintro e w3 ⟨rfl, rfl⟩
      clear HI2
      cases b2 with
      | false =>
        go_wp2
        (try simp only [Exit.inBlock, Exit.then])
        refine bodyPost_ret (results_none rfl _ _ _) rfl ?_
        exact ⟨rfl, HEND0.out (by simp)⟩
      | true =>
        clear HEND0
        have HFC2 := hide (HFC.out rfl)
        clear HFC
        go_wp2_with fail
        refine HFC2.out.mono ?_
        rintro e w4 ⟨rfl, hp4, ho4⟩
        have c2' := HC2.out _ ho4
        obtain ⟨he1, w5, hrun5, he2⟩ := HEND1.out _ (by simp) hp4 ho4
        have HE1 := hide he1
        have HE2 := hide he2
        clear he1 he2 hp4 ho4 HC2 HEND1 HFC2 c1 c2 hl2
        by_cases hxy : Y = X
        · have hne : (Y != X) = false := by simp [hxy]
          have HXY := hide hxy
          clear hxy hrun5
          go_wp2
          go_end0
          exact ⟨rfl, HE1.out HXY.out⟩
        · have hne : (Y != X) = true := by simp [hxy]
          clear hxy
          go_wp2
          go_end0
          exact ⟨rfl, HE2.out⟩
  rw [hw0] at HGO
  exact HGO

theorem i64_wrap64 (n : Int) : I64 (wrap64 n) := by
  unfold I64 wrap64
  omega

/-- An access that only reads. -/
def readM (M : Mc) (q : Int) : Mc := { M with s := stepM M q }

def writeM (M : Mc) (q cell n : Int) : Mc := accM M q cell fun _ => n

def swapM (M : Mc) (q cell old new : Int) : Mc := accM M q cell fun x => if x = old then new else x

def addM (M : Mc) (q cell n : Int) : Mc := accM M q cell fun x => wrap64 (x + n)

theorem Bk.only {t : TypeId} {w w' : World} {b : Nat} {cs : Array Value} {F : Nat → Prop} (h : Bk t w b cs) (ho : Only F w w') (hb : ¬ F b) : Bk t w' b cs := h.keep (ho.block _ h.lt hb)

theorem MacL.alloc {w : World} {p mc ms N : Nat} {M : Mc} (h : MacL w p mc ms M N) (o : Obj) : MacL (w.alloc o) p mc ms M N :=
  h.keep (Below.heap_alloc _ _ _ h.head.lt) (Below.heap_alloc _ _ _ h.cells.lt) (Below.heap_alloc _ _ _ h.steps.lt)

set_option maxRecDepth 100000 in
theorem readF_box (X x : Int) (b : Nat) (w : World) (h : Bk 3 w b #[.int .i64 x]) :
    Calls Try.prog 55 #[.int .i64 X, ptr b] w fun e w' => e = .returned (.int .i64 X) ∧ Bk 3 w' b #[.int .i64 X] ∧ Only (fun k => k = b) w w' := by
  have HB := hide h
  obtain ⟨c0, f0⟩ := h.cell 0 rfl
  clear h
  go_enter Try.func55, Try.ntmps55
  go_wp2
  go_ret
  exact ⟨rfl, HB.out.set 0 _, (Only.refl (fun k => k = b) _).setCell 0 (fun _ => rfl) _⟩

set_option maxRecDepth 100000 in
theorem writeF_box (X n : Int) (b : Nat) (w : World) (h : Bk 3 w b #[.int .i64 n]) :
    Calls Try.prog 45 #[.int .i64 X, ptr b] w fun e w' => e = .returned (.int .i64 n) ∧ w' = w := by
  obtain ⟨c0, f0⟩ := h.cell 0 rfl
  clear h
  go_enter Try.func45, Try.ntmps45
  go_wp2
  go_ret
  exact ⟨rfl, rfl⟩

set_option maxRecDepth 100000 in
theorem swapF_box (X old new : Int) (x : Bool) (bo bd bn : Nat) (w : World) (ho : Bk 3 w bo #[.int .i64 old]) (hd : Bk 4 w bd #[.bool x]) (hn : Bk 3 w bn #[.int .i64 new]) :
    Calls Try.prog 61 #[.int .i64 X, ptr bo, ptr bd, ptr bn] w fun e w' => e = .returned (.int .i64 (if X = old then new else X)) ∧ Bk 4 w' bd #[.bool (if X = old then true else x)] ∧ Only (fun k => k = bd) w w' := by
  have HB := hide hd
  obtain ⟨c0, -⟩ := ho.cell 0 rfl
  obtain ⟨c1, f1⟩ := hd.cell 0 rfl
  have c2 : (w.setCell ⟨bd, 0, none⟩ (.bool true)).cell? ⟨bn, 0, none⟩ = some (.int .i64 new) := ((hn.other bd 0 _ (hn.ne hd (by decide))).cell 0 rfl).1
  clear ho hd hn
  by_cases h : X = old
  · rw [if_pos h, if_pos h]
    have hne : (X != old) = false := by simp [h]
    clear h
    go_enter Try.func61, Try.ntmps61
    go_wp2
    go_ret
    exact ⟨rfl, HB.out.set 0 _, (Only.refl (fun k => k = bd) _).setCell 0 (fun _ => rfl) _⟩
  · rw [if_neg h, if_neg h]
    have hne : (X != old) = true := by simp [h]
    clear h
    go_enter Try.func61, Try.ntmps61
    go_wp2
    go_ret
    exact ⟨rfl, HB.out, Only.refl _ _⟩

end Go.Proofs.Ytedfacbngefhnaa

/- Read, Write, Swap and Add of a machine. -/
namespace Go.Proofs.Ytedfacbngefhnaa
open Go.RowKit Go.Maps Go.Shelf

theorem only_back {w w1 w2 : World} {mc ms : Nat} {F : Nat → Prop} (h1 : Below w.heap.size w w1) (h2 : Only (fun k => k = mc ∨ k = ms ∨ F k) w1 w2) (hF : ∀ k, F k → w.heap.size ≤ k) : Only (fun k => k = mc ∨ k = ms) w w2 :=
  (Only.ofBelow (F := fun k => k = mc ∨ k = ms) h1).trans h2 fun k hk h => h.elim .inl fun h => h.elim .inr fun h => absurd (hF k h) (by omega)

set_option maxRecDepth 100000 in
set_option maxHeartbeats 1000000 in
theorem read_any {w : World} {p mc ms N : Nat} {M : Mc} (h : MacL w p mc ms M N) (hN : N ≤ 100000000000) (q cell : Int) (hq : I64 q) (hc : I64 cell) :
    Calls Try.prog 51 #[ptr p, .int .i64 q, .int .i64 cell] w fun e w' => e = .returned (.int .i64 (M.c cell)) ∧ MacL w' p mc ms (readM M q) (N + 2) ∧ Only (fun k => k = mc ∨ k = ms) w w' := by
  have hmf : ∀ (fn : Fn) (first cap : Array Value) (w : World), (Instr.makeFunc fn first cap).run Try.prog w = .ok (.func fn first cap) w := fun _ _ _ _ => rfl
  have h1 := h.alloc (.cells #[.int .i64 0] 3)
  have hpl := h.head.lt
  have hcl := h.cells.lt
  have hsl := h.steps.lt
  have hbx : Bk 3 (w.alloc (.cells #[.int .i64 0] 3)) w.heap.size #[.int .i64 0] := heap_alloc_new _ _
  have HA := hide (access_any h1 hN q cell hq hc (fun x => x) (h.ok.c cell) 55 #[ptr w.heap.size] (enters_of Try.func55 (by kernel_rfl) rfl)
    (fun k => k = w.heap.size) (by omega) (by omega) (by omega) (fun W => Bk 3 W w.heap.size #[.int .i64 0]) (fun W => Bk 3 W w.heap.size #[.int .i64 (M.c cell)]) hbx
    (fun W W' ho hb => hb.only ho (by omega)) (fun W W' ho hb => hb.only ho (by omega)) (fun W hb => readF_box _ _ _ W hb))
  have HC0 := hide (h.ok.c0 cell)
  have HE : Hid (accM M q cell (fun x => x) = readM M q) := accM_id rfl
  rw [HE.out] at HA
  have HB0 := hide ((Below.refl w.heap.size w).alloc (Nat.le_refl _) (.cells #[.int .i64 0] 3))
  obtain ⟨X, hX⟩ : ∃ X, X = M.c cell := ⟨_, rfl⟩
  rw [← hX] at HA HC0
  rw [← hX]
  clear h h1 hpl hcl hsl hbx HE hX hq hc
  go_enter Try.func51, Try.ntmps51
  go_wp2_with fail
  refine HA.out.mono ?_
  rintro e w2 ⟨rfl, hm2, ho2, hp1, hp0⟩
  have HEND := hide (And.intro hm2 (only_back HB0.out ho2 fun k hk => Nat.le_of_eq hk.symm))
  clear HA hm2 ho2
  have hcell : w2.cell? ⟨w.heap.size, 0, none⟩ = some (.int .i64 X) := by
    cases hi : inM cell M.len with
    | true => exact ((hp1 hi).cell 0 rfl).1
    | false => rw [HC0.out hi]; exact ((hp0 hi).cell 0 rfl).1
  clear hp1 hp0
  go_wp2
  go_ret
  exact ⟨rfl, HEND.out⟩

set_option maxRecDepth 100000 in
set_option maxHeartbeats 1000000 in
theorem write_any {w : World} {p mc ms N : Nat} {M : Mc} (h : MacL w p mc ms M N) (hN : N ≤ 100000000000) (q cell n : Int) (hq : I64 q) (hc : I64 cell) (hn : I64 n) :
    Calls Try.prog 42 #[ptr p, .int .i64 q, .int .i64 cell, .int .i64 n] w fun e w' => e = .returned (.tuple #[]) ∧ MacL w' p mc ms (writeM M q cell n) (N + 2) ∧ Only (fun k => k = mc ∨ k = ms) w w' := by
  have hmf : ∀ (fn : Fn) (first cap : Array Value) (w : World), (Instr.makeFunc fn first cap).run Try.prog w = .ok (.func fn first cap) w := fun _ _ _ _ => rfl
  have h1 := h.alloc (.cells #[.int .i64 n] 3)
  have hpl := h.head.lt
  have hcl := h.cells.lt
  have hsl := h.steps.lt
  have hbx : Bk 3 (w.alloc (.cells #[.int .i64 n] 3)) w.heap.size #[.int .i64 n] := heap_alloc_new _ _
  have HA := hide (access_any h1 hN q cell hq hc (fun _ => n) hn 45 #[ptr w.heap.size] (enters_of Try.func45 (by kernel_rfl) rfl)
    (fun k => k = w.heap.size) (by omega) (by omega) (by omega) (fun W => Bk 3 W w.heap.size #[.int .i64 n]) (fun W => Bk 3 W w.heap.size #[.int .i64 n]) hbx
    (fun W W' ho hb => hb.only ho (by omega)) (fun W W' ho hb => hb.only ho (by omega)) (fun W hb => (writeF_box _ _ _ W hb).mono fun e w' ⟨he, hw⟩ => ⟨he, by rw [hw]; exact hb, by rw [hw]; exact Only.refl _ _⟩))
  have HB0 := hide ((Below.refl w.heap.size w).alloc (Nat.le_refl _) (.cells #[.int .i64 n] 3))
  have HE : Hid (accM M q cell (fun _ => n) = writeM M q cell n) := rfl
  rw [HE.out] at HA
  clear h h1 hpl hcl hsl hbx hq hc hn HE
  go_enter Try.func42, Try.ntmps42
  go_wp2_with fail
  refine HA.out.mono ?_
  rintro e w2 ⟨rfl, hm2, ho2, -, -⟩
  have HEND := hide (And.intro hm2 (only_back HB0.out ho2 fun k hk => Nat.le_of_eq hk.symm))
  clear HA hm2 ho2
  go_wp2
  go_end0
  exact ⟨rfl, HEND.out⟩

set_option maxRecDepth 100000 in
set_option maxHeartbeats 1000000 in
theorem swap_any {w : World} {p mc ms N : Nat} {M : Mc} (h : MacL w p mc ms M N) (hN : N ≤ 100000000000) (q cell old new : Int) (hq : I64 q) (hc : I64 cell) (hnw : I64 new) :
    Calls Try.prog 57 #[ptr p, .int .i64 q, .int .i64 cell, .int .i64 old, .int .i64 new] w fun e w' => e = .returned (.bool (inM cell M.len && decide (M.c cell = old))) ∧ MacL w' p mc ms (swapM M q cell old new) (N + 2) ∧ Only (fun k => k = mc ∨ k = ms) w w' := by
  have hmf : ∀ (fn : Fn) (first cap : Array Value) (w : World), (Instr.makeFunc fn first cap).run Try.prog w = .ok (.func fn first cap) w := fun _ _ _ _ => rfl
  obtain ⟨w1, hw1⟩ : ∃ w1, w1 = w.alloc (.cells #[.int .i64 old] 3) := ⟨_, rfl⟩
  have hs1 : w1.heap.size = w.heap.size + 1 := by rw [hw1]; simp
  have ho1 : Bk 3 w1 w.heap.size #[.int .i64 old] := by rw [hw1]; exact heap_alloc_new _ _
  have h1 : MacL w1 p mc ms M N := by rw [hw1]; exact h.alloc _
  obtain ⟨w2, hw2⟩ : ∃ w2, w2 = w1.alloc (.cells #[.int .i64 new] 3) := ⟨_, rfl⟩
  have hs2 : w2.heap.size = w.heap.size + 1 + 1 := by rw [hw2]; simp [hs1]
  have hn2 : Bk 3 w2 (w.heap.size + 1) #[.int .i64 new] := by rw [hw2, ← hs1]; exact heap_alloc_new _ _
  have ho2 : Bk 3 w2 w.heap.size #[.int .i64 old] := by rw [hw2]; exact ho1.keep (Below.heap_alloc _ _ _ (by omega))
  have h2 : MacL w2 p mc ms M N := by rw [hw2]; exact h1.alloc _
  have h3 := h2.alloc (.cells #[.bool false] 4)
  have hpl := h.head.lt
  have hcl := h.cells.lt
  have hsl := h.steps.lt
  have hn3 : Bk 3 (w2.alloc (.cells #[.bool false] 4)) (w.heap.size + 1) #[.int .i64 new] := hn2.keep (Below.heap_alloc _ _ _ (by omega))
  have ho3 : Bk 3 (w2.alloc (.cells #[.bool false] 4)) w.heap.size #[.int .i64 old] := ho2.keep (Below.heap_alloc _ _ _ (by omega))
  have hbx : Bk 4 (w2.alloc (.cells #[.bool false] 4)) (w.heap.size + 1 + 1) #[.bool false] := by rw [← hs2]; exact heap_alloc_new _ _
  have hgi : I64 (if M.c cell = old then new else M.c cell) := by split; exact hnw; exact h.ok.c cell
  have HA := hide (access_any h3 hN q cell hq hc (fun x => if x = old then new else x) hgi 61 #[ptr w.heap.size, ptr (w.heap.size + 1 + 1), ptr (w.heap.size + 1)] (enters_of Try.func61 (by kernel_rfl) rfl)
    (fun k => k = w.heap.size + 1 + 1) (by omega) (by omega) (by omega) (fun W => Bk 3 W w.heap.size #[.int .i64 old] ∧ Bk 4 W (w.heap.size + 1 + 1) #[.bool false] ∧ Bk 3 W (w.heap.size + 1) #[.int .i64 new]) (fun W => Bk 4 W (w.heap.size + 1 + 1) #[.bool (if M.c cell = old then true else false)]) ⟨ho3, hbx, hn3⟩
    (fun W W' ho hb => ⟨hb.1.only ho (by omega), hb.2.1.only ho (by omega), hb.2.2.only ho (by omega)⟩) (fun W W' ho hb => hb.only ho (by omega)) (fun W hb => swapF_box _ _ _ _ _ _ _ W hb.1 hb.2.1 hb.2.2))
  have HB0 : Hid (Below w.heap.size w (w2.alloc (.cells #[.bool false] 4))) := by rw [hw2, hw1]; exact (((Below.refl w.heap.size w).alloc (Nat.le_refl _) _).alloc (by simp) _).alloc (by simp; omega) _
  have HE : Hid (accM M q cell (fun x => if x = old then new else x) = swapM M q cell old new) := rfl
  rw [HE.out] at HA
  obtain ⟨X, hX⟩ : ∃ X, X = (inM cell M.len && decide (M.c cell = old)) := ⟨_, rfl⟩
  have HX := hide hX
  rw [← hX]
  rw [hw2, hw1] at HA HB0
  clear h h1 h2 h3 hn2 hn3 ho1 ho2 ho3 hpl hcl hsl hbx HE hX hq hc hs1 hs2 hw1 hw2 hnw hgi
  go_enter Try.func57, Try.ntmps57
  go_wp2_with fail
  refine HA.out.mono ?_
  rintro e w3 ⟨rfl, hm2, ho2, hp1, hp0⟩
  have HEND := hide (And.intro hm2 (only_back HB0.out ho2 fun k hk => by omega))
  have hcell : w3.cell? ⟨w.heap.size + 1 + 1, 0, none⟩ = some (.bool X) := by
    rw [HX.out]
    cases hi : inM cell M.len with
    | true =>
      rw [((hp1 hi).cell 0 rfl).1]
      by_cases e : M.c cell = old
      · simp [e]
      · simp [e]
    | false => exact ((hp0 hi).2.1.cell 0 rfl).1
  clear HA hm2 ho2 hp1 hp0
  go_wp2
  go_ret
  exact ⟨rfl, HEND.out⟩

end Go.Proofs.Ytedfacbngefhnaa

/- Blocks of records as bytes, over plain lists, and what follows. -/
namespace Go.Proofs.Ytedfacbngefhnaa

/-- The Seq of the last record that has a process; 0: there is none. -/
def lastSeq (l : List Rec) (p : Int) : Int := l.foldl (fun a r => if r.proc = p then r.seq else a) 0

theorem lastSeq_snoc (l : List Rec) (r : Rec) (p : Int) : lastSeq (l ++ [r]) p = if r.proc = p then r.seq else lastSeq l p := by
  unfold lastSeq
  rw [List.foldl_append]
  rfl

theorem lastSeq_nil (p : Int) : lastSeq [] p = 0 := rfl

theorem lastSeq_bd {l : List Rec} (p : Int) : (∀ r ∈ l, FitsR r) → 0 ≤ lastSeq l p ∧ lastSeq l p < 4611686018427387904 := by
  unfold lastSeq
  suffices h : ∀ (l : List Rec) (a : Int), (∀ r ∈ l, FitsR r) → 0 ≤ a → a < 4611686018427387904 → 0 ≤ l.foldl (fun a r => if r.proc = p then r.seq else a) a ∧ l.foldl (fun a r => if r.proc = p then r.seq else a) a < 4611686018427387904 by
    exact fun hl => h l 0 hl (by decide) (by decide)
  intro l
  induction l with
  | nil => intro a _ h0 h1; exact ⟨h0, h1⟩
  | cons r t ih =>
    intro a hf h0 h1
    rw [List.foldl_cons]
    have hr := hf r (by simp)
    obtain ⟨_, _, _, hs0, hs1, _⟩ := hr
    by_cases hp : r.proc = p
    · rw [if_pos hp]
      exact ih _ (fun s hs => hf s (by simp [hs])) hs0 hs1
    · rw [if_neg hp]
      exact ih _ (fun s hs => hf s (by simp [hs])) h0 h1

/-- A record behind others, as bytes. -/
def encOne (pre : List Rec) (r : Rec) : List UInt8 :=
  Lib.uvarint r.proc.toNat ++ (Lib.uvarint (Lib.zigzag (r.seq - lastSeq pre r.proc)) ++ (putOpL r.op ++ Lib.uvarint (Lib.zigzag r.resp)))

/-- Records behind others, as bytes. -/
def encRs (pre : List Rec) : List Rec → List UInt8
  | [] => []
  | r :: t => encOne pre r ++ encRs (pre ++ [r]) t

/-- A block's bytes. -/
def encB (l : List Rec) : List UInt8 := Lib.uvarint (l.headD zeroR).idx.toNat ++ (Lib.uvarint l.length ++ encRs [] l)

/-- Is each Index one more than the one ahead? -/
def chainR : Int → List Rec → Prop
  | _, [] => True
  | i, r :: t => r.idx = i ∧ chainR (i + 1) t

instance chainR_dec : ∀ (i : Int) (l : List Rec), Decidable (chainR i l)
  | _, [] => .isTrue trivial
  | i, r :: t => by
    unfold chainR
    exact @instDecidableAnd _ _ _ (chainR_dec (i + 1) t)

/-- May records stand in a block? -/
def FitsB (l : List Rec) : Prop := 1 ≤ l.length ∧ l.length ≤ 256 ∧ (∀ r ∈ l, FitsR r) ∧ chainR (l.headD zeroR).idx l

instance (l : List Rec) : Decidable (FitsB l) := by unfold FitsB; infer_instance

theorem encRs_app : ∀ (a b pre : List Rec), encRs pre (a ++ b) = encRs pre a ++ encRs (pre ++ a) b
  | [], b, pre => by simp [encRs]
  | r :: t, b, pre => by
    have e : pre ++ [r] ++ t = pre ++ r :: t := by simp
    rw [List.cons_append, encRs, encRs_app t b, e, encRs]
    exact (List.append_assoc _ _ _).symm

theorem encRs_snoc (l : List Rec) (k : Nat) (hk : k < l.length) : encRs [] (l.take (k + 1)) = encRs [] (l.take k) ++ encOne (l.take k) (l.getD k zeroR) := by
  have e : l.take (k + 1) = l.take k ++ [l.getD k zeroR] := by
    rw [List.take_add_one]
    simp [List.getD, hk]
  rw [e, encRs_app]
  simp [encRs]

/-- The record that bytes begin with, behind others, and how many bytes it has. -/
def oneL (pre : List Rec) (b : List UInt8) : Rec × Nat :=
  let i := (dec62 b).2
  let j := (dec64 (b.drop i)).2
  let k := (getOpL (b.drop (i + j))).2
  let m := (dec64 (b.drop (i + j + k))).2
  if i = 0 ∨ j = 0 ∨ k = 0 ∨ m = 0 then (zeroR, 0)
  else (⟨0, (dec62 b).1, IntKind.i64.wrap (lastSeq pre (dec62 b).1 + zag (dec64 (b.drop i)).1), (getOpL (b.drop (i + j))).1, zag (dec64 (b.drop (i + j + k))).1⟩, i + j + k + m)

theorem wrap_id {n : Int} (h : I64 n) : IntKind.i64.wrap n = n := by
  obtain ⟨h0, h1⟩ := h
  rw [IntKind.wrap_i64]
  omega

theorem diff_i64 {l : List Rec} (hl : ∀ r ∈ l, FitsR r) {r : Rec} (hr : FitsR r) : I64 (r.seq - lastSeq l r.proc) := by
  obtain ⟨h0, h1⟩ := lastSeq_bd r.proc hl
  obtain ⟨_, _, _, hs0, hs1, _⟩ := hr
  exact ⟨by omega, by omega⟩

theorem one_enc {pre : List Rec} (hl : ∀ r ∈ pre, FitsR r) {r : Rec} (hr : FitsR r) (t : List UInt8) : oneL pre (encOne pre r ++ t) = ({ r with idx := 0 }, (encOne pre r).length) := by
  have hd := diff_i64 hl hr
  have hresp := fitsR_resp hr
  obtain ⟨ho, _, _, hs0, hs1, hp0, hp1, _⟩ := id hr
  have E : encOne pre r ++ t = Lib.uvarint r.proc.toNat ++ (Lib.uvarint (Lib.zigzag (r.seq - lastSeq pre r.proc)) ++ (putOpL r.op ++ (Lib.uvarint (Lib.zigzag r.resp) ++ t))) := by
    unfold encOne
    simp only [List.append_assoc]
  have d1 := dec62_uvarint r.proc.toNat (Lib.uvarint (Lib.zigzag (r.seq - lastSeq pre r.proc)) ++ (putOpL r.op ++ (Lib.uvarint (Lib.zigzag r.resp) ++ t))) (by omega)
  rw [← E] at d1
  have e1 : (encOne pre r ++ t).drop (Lib.uvarint r.proc.toNat).length = Lib.uvarint (Lib.zigzag (r.seq - lastSeq pre r.proc)) ++ (putOpL r.op ++ (Lib.uvarint (Lib.zigzag r.resp) ++ t)) := by rw [E, List.drop_left]
  have d2 := dec64_uvarint (Lib.zigzag (r.seq - lastSeq pre r.proc)) (putOpL r.op ++ (Lib.uvarint (Lib.zigzag r.resp) ++ t)) (zig_lt hd)
  have e2 : (encOne pre r ++ t).drop ((Lib.uvarint r.proc.toNat).length + (Lib.uvarint (Lib.zigzag (r.seq - lastSeq pre r.proc))).length) = putOpL r.op ++ (Lib.uvarint (Lib.zigzag r.resp) ++ t) := by rw [← List.drop_drop, e1, List.drop_left]
  have d3 := getOp_put r.op ho (Lib.uvarint (Lib.zigzag r.resp) ++ t)
  have e3 : (encOne pre r ++ t).drop ((Lib.uvarint r.proc.toNat).length + (Lib.uvarint (Lib.zigzag (r.seq - lastSeq pre r.proc))).length + (putOpL r.op).length) = Lib.uvarint (Lib.zigzag r.resp) ++ t := by rw [← List.drop_drop, e2, List.drop_left]
  have d4 := dec64_uvarint (Lib.zigzag r.resp) t (zig_lt hresp)
  have n1 := uv_ne r.proc.toNat
  have n2 := uv_ne (Lib.zigzag (r.seq - lastSeq pre r.proc))
  have n4 := uv_ne (Lib.zigzag r.resp)
  have n3 : (putOpL r.op).length ≠ 0 := by
    unfold putOpL
    have := uv_ne r.op.code.toNat
    rw [List.length_append]
    omega
  unfold oneL
  simp only [d1, e1, d2, e2, d3, e3, d4]
  rw [if_neg (by rintro (h | h | h | h); exact n1 h; exact n2 h; exact n3 h; exact n4 h)]
  have hpn : ((r.proc.toNat : Nat) : Int) = r.proc := by omega
  rw [hpn, zag_zigzag _ hd.1 hd.2, zag_zigzag _ hresp.1 hresp.2]
  have hw : lastSeq pre r.proc + (r.seq - lastSeq pre r.proc) = r.seq := by omega
  rw [hw, wrap_id ⟨by omega, by omega⟩]
  congr 1
  unfold encOne
  simp only [List.length_append]
  omega

theorem uv_inj62 {a b : Nat} (ha : a < 4611686018427387904) (hb : b < 4611686018427387904) {x y : List UInt8} (h : Lib.uvarint a ++ x = Lib.uvarint b ++ y) : a = b ∧ x = y := by
  have d1 := dec62_uvarint a x ha
  have d2 := dec62_uvarint b y hb
  rw [h, d2] at d1
  have e := (Prod.mk.injEq ..).mp d1
  have hab : a = b := e.1.symm
  subst hab
  exact ⟨rfl, List.append_cancel_left h⟩

/-- Of two lists neither's bytes begin the other's. -/
theorem encRs_inj : ∀ (l l' pre : List Rec) (i : Int) (t : List UInt8), l.length = l'.length → chainR i l → chainR i l' → (∀ r ∈ pre, FitsR r) → (∀ r ∈ l, FitsR r) → (∀ r ∈ l', FitsR r) → encRs pre l' = encRs pre l ++ t → l' = l ∧ t = []
  | [], [], pre, i, t, _, _, _, _, _, _, h => ⟨rfl, by simpa [encRs] using h.symm⟩
  | r :: u, r' :: u', pre, i, t, hlen, hc, hc', hp, hf, hf', h => by
    have hr := hf r (by simp)
    have hr' := hf' r' (by simp)
    have h1 := one_enc hp hr (encRs (pre ++ [r]) u ++ t)
    have h2 := one_enc hp hr' (encRs (pre ++ [r']) u')
    have hh : encOne pre r' ++ encRs (pre ++ [r']) u' = encOne pre r ++ (encRs (pre ++ [r]) u ++ t) := by
      rw [encRs, encRs] at h
      rw [h, List.append_assoc]
    rw [hh, h1] at h2
    have hs := ((Prod.mk.injEq ..).mp h2).1
    have hri : r.idx = r'.idx := by rw [hc.1, hc'.1]
    have hrr : r' = r := by
      obtain ⟨i1, p1, s1, o1, e1⟩ := r
      obtain ⟨i2, p2, s2, o2, e2⟩ := r'
      simp only [Rec.mk.injEq, true_and] at hs hri ⊢
      obtain ⟨h1, h2, h3, h4⟩ := hs
      exact ⟨hri.symm, h1.symm, h2.symm, h3.symm, h4.symm⟩
    subst hrr
    have hrest : encRs (pre ++ [r']) u' = encRs (pre ++ [r']) u ++ t := List.append_cancel_left hh
    obtain ⟨q1, q2⟩ := encRs_inj u u' (pre ++ [r']) (i + 1) t (by simpa using hlen) hc.2 hc'.2 (fun s hs => by
      rcases List.mem_append.1 hs with h | h
      · exact hp s h
      · simp at h; rw [h]; exact hr) (fun s hs => hf s (by simp [hs])) (fun s hs => hf' s (by simp [hs])) hrest
    exact ⟨by rw [q1], q2⟩

theorem encB_inj {l l' : List Rec} (hl : FitsB l) (hl' : FitsB l') {t : List UInt8} (h : encB l' = encB l ++ t) : l' = l ∧ t = [] := by
  obtain ⟨n1, n2, hf, hc⟩ := hl
  obtain ⟨n1', n2', hf', hc'⟩ := hl'
  unfold encB at h
  simp only [List.append_assoc] at h
  have hm : ∀ l : List Rec, 1 ≤ l.length → l.headD zeroR ∈ l := fun l h => by
    match l, h with
    | r :: u, _ => simp
  obtain ⟨_, i0, i1, _⟩ := hf _ (hm l n1)
  obtain ⟨_, j0, j1, _⟩ := hf' _ (hm l' n1')
  obtain ⟨k1, k2⟩ := uv_inj62 (by omega) (by omega) h
  obtain ⟨k3, k4⟩ := uv_inj62 (by omega) (by omega) k2
  have hidx : (l.headD zeroR).idx = (l'.headD zeroR).idx := by omega
  rw [← hidx] at hc'
  exact encRs_inj l l' [] _ t (by omega) hc hc' (fun r hr => by simp at hr) hf hf' k4

theorem encB_apart {l l' : List Rec} (hl : FitsB l) (hl' : FitsB l') : encB l = encB l' ↔ l = l' := by
  constructor
  · intro h
    exact (encB_inj hl' hl (t := []) (by rw [List.append_nil]; exact h)).1
  · intro h
    rw [h]

theorem encB_cut {l l' : List Rec} (hl : FitsB l) (hl' : FitsB l') {n : Nat} (hn : n < (encB l).length) : encB l' ≠ (encB l).take n := by
  intro h
  have h2 : encB l = encB l' ++ (encB l).drop n := by rw [h, List.take_append_drop]
  obtain ⟨_, h3⟩ := encB_inj hl' hl h2
  have h4 := congrArg List.length h3
  rw [List.length_drop] at h4
  simp at h4
  omega

theorem encB_more {l l' : List Rec} (hl : FitsB l) (hl' : FitsB l') {t : List UInt8} (ht : t ≠ []) : encB l' ≠ encB l ++ t := fun h => ht (encB_inj hl hl' h).2

theorem encB_ne {l : List Rec} : encB l ≠ [] := by
  unfold encB
  intro h
  have := congrArg List.length h
  have h2 := uv_ne (l.headD zeroR).idx.toNat
  simp only [List.length_append, List.length_nil] at this
  omega

/-- What bytes are: the records of which they are the bytes, or none and ErrForm. -/
def DecB (b : List UInt8) (l : List Rec) (e : Int) : Prop := (e = 0 ∧ FitsB l ∧ encB l = b) ∨ (e = 3 ∧ l = [] ∧ ∀ l', FitsB l' → encB l' ≠ b)

theorem DecB.unique {b : List UInt8} {l l' : List Rec} {e e' : Int} (h : DecB b l e) (h' : DecB b l' e') : l = l' ∧ e = e' := by
  rcases h with ⟨h1, h2, h3⟩ | ⟨h1, h2, h3⟩
  · rcases h' with ⟨k1, k2, k3⟩ | ⟨k1, k2, k3⟩
    · exact ⟨(encB_apart h2 k2).1 (h3.trans k3.symm), by omega⟩
    · exact absurd h3 (k3 l h2)
  · rcases h' with ⟨k1, k2, k3⟩ | ⟨k1, k2, k3⟩
    · exact absurd k3 (h3 l' k2)
    · exact ⟨by rw [h2, k2], by omega⟩

end Go.Proofs.Ytedfacbngefhnaa

/- Contracts of own, putGroups, Put, PutSigned: what the answer holds, that it is the call's own, and that nothing older has turned. -/
namespace Go.Proofs.Ytedfacbngefhnaa
open Go.RowKit

theorem or128 (y : Nat) : bits .or .u8 ((y : Int) % 256) 128 = (y : Int) % 128 + 128 := by
  rw [Lib.u8_or128_any _ (by omega) (by omega)]
  omega

theorem Own.snoc {w : World} {B : Nat} {v : Value} (l pre : List UInt8) (a : Nat) (ha : a < 256) {n : Nat} {x : Int} (h : w.ownsRow B 5 1 v n (Lib.byteCells (l ++ pre) ++ [Value.int .u8 x])) (hn : n = l.length + pre.length + 1) (hx : x = (a : Int)) : Own w B v (l ++ (pre ++ [a.toUInt8])) := by
  subst hx
  refine Own.mk' h (by rw [hn]; simp; omega) ?_
  rw [← List.append_assoc, Lib.byteCells_snoc _ ha]

/-- What Put answers: the bytes, and behind them the groups, if the number may be. -/
def putOf (l : List UInt8) (n : Int) : List UInt8 := if 0 ≤ n ∧ n < 4611686018427387904 then l ++ Lib.uvarint n.toNat else l

end Go.Proofs.Ytedfacbngefhnaa

/- append onto bytes of the call's own, of any bytes that can be read: a law for the walk. -/
namespace Go.Proofs.Ytedfacbngefhnaa
open Go.RowKit

theorem Own.nil (w : World) (B : Nat) : Own w B (.slice none 0 0) [] := World.ownsRow_nil w B 5 1

end Go.Proofs.Ytedfacbngefhnaa

/- Contracts of countGroups, getGroups, Get, GetSigned. -/
namespace Go.Proofs.Ytedfacbngefhnaa
open Go.RowKit

/-- c is how many groups the bytes begin with; 0: the last one lacks, or is beyond ten. -/
def Cnt (l : List UInt8) (c : Nat) : Prop :=
  (c = 0 ∧ ∀ j, j < 10 → j < l.length → 128 ≤ (l.getD j 0).toNat) ∨
  (1 ≤ c ∧ c ≤ 10 ∧ c ≤ l.length ∧ (∀ j, j + 1 < c → 128 ≤ (l.getD j 0).toNat) ∧ (l.getD (c - 1) 0).toNat < 128)

theorem dec64_none {l : List UInt8} (h : Cnt l 0) : dec64 l = (0, 0) := by
  rcases h with ⟨_, h⟩ | h
  · unfold dec64
    rw [dec_miss 10 l h]
  · omega

theorem dec_cnt {l : List UInt8} {c : Nat} (h : Cnt l (c + 1)) : c < 10 ∧ c < l.length ∧ (l.getD c 0).toNat < 128 ∧
    dec 10 l = if 0 < c ∧ (l.getD c 0).toNat = 0 then none else some (val (l.take (c + 1)), c + 1) := by
  rcases h with h | ⟨h1, h2, h3, h4, h5⟩
  · omega
  · have h5' : (l.getD c 0).toNat < 128 := by simpa using h5
    exact ⟨by omega, by omega, h5', dec_hit c 10 l (by omega) (by omega) (fun j hj => h4 j (by omega)) h5'⟩

theorem val_take_lt (l : List UInt8) (k : Nat) (h : k ≤ l.length) : val (l.take k) < 128 ^ k := by
  have := val_lt (l.take k)
  rwa [List.length_take, Nat.min_eq_left h] at this

theorem dec64_ten {l : List UInt8} (h : Cnt l 10) (hy : (l.getD 9 0).toNat ≠ 1) : dec64 l = (0, 0) := by
  obtain ⟨h1, h2, h3, h4⟩ := dec_cnt h
  unfold dec64
  rw [h4]
  by_cases hz : (l.getD 9 0).toNat = 0
  · rw [if_pos ⟨by omega, hz⟩]
  · rw [if_neg (fun e => hz e.2)]
    have hv := val_take l 9 h2
    have hm : (l.getD 9 0).toNat % 128 = (l.getD 9 0).toNat := Nat.mod_eq_of_lt h3
    rw [hm] at hv
    have e9 : 128 ^ 9 = 9223372036854775808 := by decide
    rw [e9] at hv
    have : ¬ val (l.take (9 + 1)) < 18446744073709551616 := by omega
    simp only [this, if_false]

theorem dec64_last0 {l : List UInt8} {c : Nat} (h : Cnt l (c + 1)) (hc : 0 < c) (hy : (l.getD c 0).toNat = 0) : dec64 l = (0, 0) := by
  obtain ⟨h1, h2, h3, h4⟩ := dec_cnt h
  unfold dec64
  rw [h4, if_pos ⟨hc, hy⟩]

theorem dec64_good {l : List UInt8} {c : Nat} (h : Cnt l (c + 1)) (h10 : c = 9 → (l.getD c 0).toNat = 1) (h0 : 0 < c → (l.getD c 0).toNat ≠ 0) :
    dec64 l = (val (l.take (c + 1)), c + 1) ∧ val (l.take (c + 1)) < 18446744073709551616 := by
  obtain ⟨h1, h2, h3, h4⟩ := dec_cnt h
  have hlt : val (l.take (c + 1)) < 18446744073709551616 := by
    by_cases e : c = 9
    · subst e
      have hv := val_take l 9 h2
      have hv9 := val_take_lt l 9 (by omega)
      rw [h10 rfl] at hv
      have e9 : 128 ^ 9 = 9223372036854775808 := by decide
      rw [e9] at hv hv9
      omega
    · have hv := val_take_lt l (c + 1) (by omega)
      have hp : 128 ^ (c + 1) ≤ 128 ^ 9 := Nat.pow_le_pow_right (by decide) (by omega)
      have e9 : 128 ^ 9 = 9223372036854775808 := by decide
      omega
  refine ⟨?_, hlt⟩
  unfold dec64
  rw [h4, if_neg (fun e => h0 e.1 e.2)]
  simp only [hlt, if_true]

theorem or_low (k y x : Nat) (hk : k < 64) (hy : y < 2 ^ k) (hx : x * 2 ^ k < 18446744073709551616) :
    bits .or .u64 (y : Int) (IntKind.u64.wrap ((x : Int) * 2 ^ k)) = ((y + x * 2 ^ k : Nat) : Int) := by
  have e : ((x : Int) * 2 ^ k) = ((x * 2 ^ k : Nat) : Int) := by simp
  have hp : ((2 ^ k : Nat) : Int) = (2 : Int) ^ k := by simp
  have hk64 : (2 : Nat) ^ k ≤ 2 ^ 64 := Nat.pow_le_pow_right (by decide) (by omega)
  rw [e, wraps_u64 _ (by omega) (by omega), bits_join_low .u64 64 (by decide) wraps_u64 k (y : Int) ((x * 2 ^ k : Nat) : Int) (by omega) (by rw [← hp]; omega) (by omega) (by omega) (by rw [← hp]; simp) (by omega)]
  omega

theorem or_step (l : List UInt8) (k : Nat) (hk : k < l.length) (h10 : k < 10) (h9 : k = 9 → (l.getD k 0).toNat % 128 ≤ 1) :
    bits .or .u64 ((val (l.take k) : Nat) : Int) (IntKind.u64.wrap (((l.getD k 0).toNat : Int) % 128 * 2 ^ (7 * k))) = ((val (l.take (k + 1)) : Nat) : Int) := by
  have hv := val_take_lt l k (by omega)
  rw [val_take l k hk, ← pow7]
  rw [← pow7] at hv
  have e : (((l.getD k 0).toNat : Int) % 128) = (((l.getD k 0).toNat % 128 : Nat) : Int) := by omega
  rw [e]
  refine or_low (7 * k) _ _ (by omega) hv ?_
  by_cases hk9 : k = 9
  · have := h9 hk9
    subst hk9
    have e9 : 2 ^ (7 * 9) = 9223372036854775808 := by decide
    rw [e9]
    omega
  · have hp : 2 ^ (7 * k) ≤ 2 ^ 56 := Nat.pow_le_pow_right (by decide) (by omega)
    have hm : (l.getD k 0).toNat % 128 ≤ 127 := by omega
    have := Nat.mul_le_mul hm hp
    have e56 : 127 * 2 ^ 56 < 18446744073709551616 := by decide
    omega

end Go.Proofs.Ytedfacbngefhnaa

/- Contracts of lowest, Fixed32, Fixed64, Fixed. -/
namespace Go.Proofs.Ytedfacbngefhnaa
open Go.RowKit

theorem leBytes_snoc : ∀ (k v : Nat), Lib.leBytes (k + 1) v = Lib.leBytes k v ++ [(v / 256 ^ k % 256).toUInt8]
  | 0, v => by simp [Lib.leBytes]
  | k + 1, v => by
    have ih := leBytes_snoc k (v / 256)
    have e : v / 256 / 256 ^ k = v / 256 ^ (k + 1) := by rw [Nat.div_div_eq_div_mul, Nat.pow_succ, Nat.mul_comm]
    rw [Lib.leBytes, ih, e]
    simp [Lib.leBytes]

/-- What lies in the row of c bytes behind k rounds. -/
def leRow (c k v : Nat) : List UInt8 := Lib.leBytes k v ++ List.replicate (c - k) 0

theorem leRow_length (c k v : Nat) (h : k ≤ c) : (leRow c k v).length = c := by
  simp [leRow, Lib.leBytes_length]
  omega

theorem leRow_set (c k v : Nat) (h : k < c) : (Lib.byteCells (leRow c k v)).set k (.int .u8 ((v / 256 ^ k % 256 : Nat) : Int)) = Lib.byteCells (leRow c (k + 1) v) := by
  have e : c - k = (c - (k + 1)) + 1 := by omega
  unfold leRow
  rw [leBytes_snoc, e, List.replicate_succ]
  have hl : (Lib.byteCells (Lib.leBytes k v)).length = k := by rw [byteCells_length, Lib.leBytes_length]
  have h8 : ((v / 256 ^ k % 256).toUInt8).toNat = v / 256 ^ k % 256 := Lib.toUInt8_toNat (Nat.mod_lt _ (by decide))
  simp only [Lib.byteCells, List.map_append, List.map_cons, List.map_nil, h8] at hl ⊢
  rw [List.set_append_right _ _ (by omega), hl]
  simp

theorem pow8 (k : Nat) : 2 ^ (8 * k) = 256 ^ k := by rw [Nat.pow_mul]

theorem low_plain (v k : Nat) : ((v : Int) / 2 ^ (8 * k)) % 256 = ((v / 256 ^ k % 256 : Nat) : Int) := by
  rw [← pow8]
  simp

theorem leNat_lt : ∀ l : List UInt8, Lib.leNat l < 256 ^ l.length
  | [] => by simp [Lib.leNat]
  | c :: r => by
    have h := leNat_lt r
    have hc := c.toNat_lt
    simp only [Lib.leNat, List.length_cons, Nat.pow_succ]
    omega

theorem leNat_snoc : ∀ (l : List UInt8) (c : UInt8), Lib.leNat (l ++ [c]) = Lib.leNat l + c.toNat * 256 ^ l.length
  | [], c => by simp [Lib.leNat]
  | d :: r, c => by
    have h := leNat_snoc r c
    simp only [List.cons_append, Lib.leNat, List.length_cons, Nat.pow_succ, h]
    rw [Nat.mul_add, ← Nat.mul_assoc, Nat.mul_comm 256 c.toNat, Nat.mul_assoc, Nat.mul_comm 256 (256 ^ r.length)]
    omega

theorem leNat_take (l : List UInt8) (k : Nat) (h : k < l.length) : Lib.leNat (l.take (k + 1)) = Lib.leNat (l.take k) + (l.getD k 0).toNat * 256 ^ k := by
  rw [take_snoc l k h, leNat_snoc, List.length_take, Nat.min_eq_left (by omega)]

theorem leNat_take_lt (l : List UInt8) (k : Nat) (h : k ≤ l.length) : Lib.leNat (l.take k) < 256 ^ k := by
  have := leNat_lt (l.take k)
  rwa [List.length_take, Nat.min_eq_left h] at this

theorem or_step8 (l : List UInt8) (k : Nat) (hk : k < l.length) (h8 : k < 8) :
    bits .or .u64 ((Lib.leNat (l.take k) : Nat) : Int) (IntKind.u64.wrap (((l.getD k 0).toNat : Int) * 2 ^ (8 * k))) = ((Lib.leNat (l.take (k + 1)) : Nat) : Int) := by
  have hv := leNat_take_lt l k (by omega)
  rw [leNat_take l k hk, ← pow8]
  rw [← pow8] at hv
  refine or_low (8 * k) _ _ (by omega) hv ?_
  have hp : 2 ^ (8 * k) ≤ 2 ^ 56 := Nat.pow_le_pow_right (by decide) (by omega)
  have hb := (l.getD k 0).toNat_lt
  have hm : (l.getD k 0).toNat ≤ 255 := by omega
  have := Nat.mul_le_mul hm hp
  have e56 : 255 * 2 ^ 56 < 18446744073709551616 := by decide
  omega

end Go.Proofs.Ytedfacbngefhnaa

/- Contracts of the document's answer for layer num, its readers: read, Get, GetSigned, Fixed, Zig, Zag. -/
namespace Go.Proofs.Ytedfacbngefhnaa
open Go.RowKit

theorem zigzag_neg' (n : Int) (h : ¬ 0 ≤ n) : ((Lib.zigzag n : Nat) : Int) = -(n + 1) * 2 + 1 := by
  unfold Lib.zigzag
  rw [if_neg h]
  omega

/-- 128^k modulo 2^64, as read reckons it. -/
def one128 (k : Nat) : Int := ((128 ^ k % 18446744073709551616 : Nat) : Int)

theorem one_step (k : Nat) : (one128 k * 128) % 18446744073709551616 = one128 (k + 1) := by
  unfold one128
  rw [Nat.pow_succ]
  omega

theorem read_step (l : List UInt8) (k : Nat) (hk : k < l.length) (h10 : k < 10) (h9 : k = 9 → ((l.getD k 0).toNat : Int) % 128 ≤ 1) :
    (((val (l.take k) : Nat) : Int) + (((l.getD k 0).toNat : Int) % 128 * one128 k) % 18446744073709551616) % 18446744073709551616 = ((val (l.take (k + 1)) : Nat) : Int) := by
  have hv := val_take_lt l k (by omega)
  have ho : one128 k = ((128 ^ k : Nat) : Int) := by
    unfold one128
    have : 128 ^ k ≤ 128 ^ 9 := Nat.pow_le_pow_right (by decide) (by omega)
    have e9 : 128 ^ 9 = 9223372036854775808 := by decide
    rw [Nat.mod_eq_of_lt (by omega)]
  rw [ho, val_take l k hk]
  have e : (((l.getD k 0).toNat : Int) % 128 * ((128 ^ k : Nat) : Int)) = (((l.getD k 0).toNat % 128 * 128 ^ k : Nat) : Int) := by
    rw [Int.natCast_mul]
    simp
  rw [e]
  have hb : (l.getD k 0).toNat % 128 * 128 ^ k < 9223372036854775809 := by
    by_cases hk9 : k = 9
    · have := h9 hk9
      subst hk9
      have e9 : 128 ^ 9 = 9223372036854775808 := by decide
      rw [e9]
      omega
    · have hp : 128 ^ k ≤ 128 ^ 8 := Nat.pow_le_pow_right (by decide) (by omega)
      have hm : (l.getD k 0).toNat % 128 ≤ 127 := by omega
      have := Nat.mul_le_mul hm hp
      have e8 : 127 * 128 ^ 8 < 9223372036854775809 := by decide
      omega
  have hv2 : val (l.take k) < 9223372036854775808 := by
    have : 128 ^ k ≤ 128 ^ 9 := Nat.pow_le_pow_right (by decide) (by omega)
    have e9 : 128 ^ 9 = 9223372036854775808 := by decide
    omega
  omega

/-- The number of the bytes from the k-th on, of the first eight. -/
def leTail (l : List UInt8) (k : Nat) : Nat := Lib.leNat ((l.take 8).drop k)

theorem leTail_out (l : List UInt8) (k : Nat) (h : l.length ≤ k) : leTail l k = leTail l (k + 1) := by
  unfold leTail
  rw [List.drop_of_length_le (by simp; omega), List.drop_of_length_le (by simp; omega)]

theorem leTail_in (l : List UInt8) (k : Nat) (h : k < l.length) (h8 : k < 8) : leTail l k = (l.getD k 0).toNat + 256 * leTail l (k + 1) := by
  unfold leTail
  have hk : k < (l.take 8).length := by simp; omega
  rw [List.drop_eq_getElem_cons hk, Lib.leNat]
  simp [List.getD, h]

theorem leTail_lt (l : List UInt8) (k : Nat) (h8 : k ≤ 8) : leTail l k < 256 ^ (8 - k) := by
  unfold leTail
  have h := leNat_lt ((l.take 8).drop k)
  have h2 : ((l.take 8).drop k).length ≤ 8 - k := by simp; omega
  have h3 : 256 ^ ((l.take 8).drop k).length ≤ 256 ^ (8 - k) := Nat.pow_le_pow_right (by decide) h2
  omega

theorem fixed_step (l : List UInt8) (k : Nat) (h : k < l.length) (h8 : k < 8) :
    ((((leTail l (k + 1) : Nat) : Int) * 256) % 18446744073709551616 + ((l.getD k 0).toNat : Int)) % 18446744073709551616 = ((leTail l k : Nat) : Int) := by
  have h1 := leTail_in l k h h8
  have h2 := leTail_lt l (k + 1) (by omega)
  have h3 : 256 ^ (8 - (k + 1)) ≤ 256 ^ 7 := Nat.pow_le_pow_right (by decide) (by omega)
  have e7 : 256 ^ 7 = 72057594037927936 := by decide
  have hb := (l.getD k 0).toNat_lt
  omega

end Go.Proofs.Ytedfacbngefhnaa

/- Contracts of the document's answer for layer num, what it puts: groups, Put, PutSigned, Fix. -/
namespace Go.Proofs.Ytedfacbngefhnaa
open Go.RowKit

end Go.Proofs.Ytedfacbngefhnaa

/- awake answers true: the chapter's examples. It only makes memory of its own. -/
namespace Go.Proofs.Ytedfacbngefhnaa
open Go.RowKit

/-- Bytes as a string. -/
def bs (l : List UInt8) : ByteArray := ⟨l.toArray⟩

theorem bs_list (l : List UInt8) : (bs l).toList = l := ByteArray.toList_mk l

theorem bs_size (l : List UInt8) : (bs l).size = l.length := by simp [bs, ByteArray.size]

theorem bs_take (l : List UInt8) (n : Nat) : ((bs l).extract 0 n).toList = l.take n := by
  rw [ByteArray.toList_eq]
  simp [bs]

theorem bs_eq (a b : List UInt8) : ((bs a).toList == (bs b).toList) = (a == b) := by rw [bs_list, bs_list]

theorem uvarint300 : Lib.uvarint 300 = [172, 2] := by
  rw [Lib.uvarint_big (by decide), Lib.uvarint_small (by decide)]
  decide

end Go.Proofs.Ytedfacbngefhnaa

/- Slices of bytes cut, and slices of slices of bytes: what one reads ('RdL'), what a call makes ('OwnL'). -/
namespace Go.Proofs.Ytedfacbngefhnaa
open Go.RowKit

/-- Bytes in the midst of what is read. -/
theorem Rd.mid {w : World} {ao : Option Addr} {n cap : Nat} {l : List UInt8} (h : Rd w (.slice ao n cap) l) (i j m : Nat) (hij : i ≤ j) (hj : j ≤ l.length) (hm : j ≤ m) (hmc : m ≤ cap) : Rd w (sliced ao i j m 1) ((l.drop i).take (j - i)) := by
  obtain ⟨ao', cap', hv, h1, h2, h3, h4⟩ := h
  simp only [Value.slice.injEq] at hv
  obtain ⟨rfl, rfl, rfl⟩ := hv
  have hlen : ((l.drop i).take (j - i)).length = j - i := by simp; omega
  unfold sliced
  by_cases hmi : m = i
  · rw [if_pos hmi]
    have e : j - i = 0 := by omega
    refine ⟨ao, m - i, by rw [hlen], by omega, by omega, fun hn => by have := h3 hn; omega, .inl ?_⟩
    rw [e]
    simp
  · rw [if_neg hmi]
    refine ⟨ao.map (·.add (i * 1)), m - i, by rw [hlen], by omega, by omega, fun hn => ?_, ?_⟩
    · have hn' : ao = none := by simpa using hn
      have := h3 hn'
      omega
    · rcases h4 with h4 | ⟨b, off, h5, h6⟩
      · exact .inl (by rw [h4]; simp)
      · refine .inr ⟨b, off + i, ?_, fun k hk => ?_⟩
        · rw [h5, Nat.mul_one, Option.map_some, Addr.add_lit]
        · rw [hlen] at hk
          rw [Nat.add_assoc, h6 (i + k) (by omega)]
          simp [List.getD, hk]

theorem size_u8 (w : World) : (sizeOf 5).run Try.prog w = .ok 1 w := by
  obtain ⟨i0, hi, _, hz1, _⟩ := info_parts info8
  simp [sizeOf, typeInfo, hi, hz1]

end Go.Proofs.Ytedfacbngefhnaa

/- Contracts of ferrymanref04: cut, find, without, with, pairs. -/
namespace Go.Proofs.Ytedfacbngefhnaa
open Go.RowKit

set_option maxRecDepth 100000 in
theorem refCut_any (n : Int) (w : World) : Calls Try.prog 27 #[.int .i64 n] w fun e w' => e = .returned (.int .i64 (cutZ n)) ∧ w' = w := by
  by_cases h1 : n < -1099511627776
  · have HE : Hid (cutZ n = -1099511627776) := if_pos h1
    go_enter Try.func27, Try.ntmps27
    go_wp2
    go_ret
    exact ⟨ret_i HE.out.symm, rfl⟩
  · by_cases h2 : 1099511627776 < n
    · have HE : Hid (cutZ n = 1099511627776) := by unfold cutZ; rw [if_neg h1, if_pos h2]; exact rfl
      go_enter Try.func27, Try.ntmps27
      go_wp2
      go_ret
      exact ⟨ret_i HE.out.symm, rfl⟩
    · have HE : Hid (cutZ n = n) := by unfold cutZ; rw [if_neg h1, if_neg h2]; exact rfl
      go_enter Try.func27, Try.ntmps27
      go_wp2
      go_ret
      exact ⟨ret_i HE.out.symm, rfl⟩

end Go.Proofs.Ytedfacbngefhnaa

/- Contract of ferrymanref04: Fits. -/
namespace Go.Proofs.Ytedfacbngefhnaa
open Go.RowKit

set_option maxRecDepth 100000 in
set_option maxHeartbeats 2000000 in
theorem refFits_any (o : Opn) (w : World) :
    Calls Try.prog 17 #[opV o] w fun e w' => e = .returned (.bool (decide (FitsO o))) ∧ Below w.heap.size w w' := by
  have HBA : Hid (∀ x, Below w.heap.size w (w.alloc x)) := fun x => (Below.refl _ _).alloc (Nat.le_refl _) x
  have HC : Hid (∀ n w, Calls Try.prog 27 #[.int .i64 n] w fun e w' => e = .returned (.int .i64 (cutZ n)) ∧ w' = w) := fun n w => refCut_any n w
  obtain ⟨code, a, b⟩ := o
  have HA := hide' (cutZ_eq a)
  have HB := hide' (cutZ_eq b)
  have HF : Hid (FitsO ⟨code, a, b⟩ ↔ 0 ≤ code ∧ code ≤ 10 ∧ (-1099511627776 ≤ a ∧ a ≤ 1099511627776) ∧ (-1099511627776 ≤ b ∧ b ≤ 1099511627776)) := by
    unfold FitsO
    constructor
    · rintro ⟨h1, h2, h3, h4, h5, h6⟩; exact ⟨h1, h2, ⟨h3, h4⟩, h5, h6⟩
    · rintro ⟨h1, h2, ⟨h3, h4⟩, h5, h6⟩; exact ⟨h1, h2, h3, h4, h5, h6⟩
  show Calls Try.prog 17 #[.agg #[.int .i64 code, .int .i64 a, .int .i64 b]] w _
  by_cases h1 : 0 ≤ code
  · by_cases h2 : code ≤ 10
    · by_cases h3 : a = cutZ a
      · have e3 : (a == cutZ a) = true := beq_iff_eq.2 h3
        by_cases h4 : b = cutZ b
        · have e4 : (b == cutZ b) = true := beq_iff_eq.2 h4
          have HD : Hid (decide (FitsO ⟨code, a, b⟩) = true) := decide_eq_true (HF.out.2 ⟨h1, h2, HA.out.1 h3, HB.out.1 h4⟩)
          clear h3 h4
          go_enter Try.func17, Try.ntmps17
          go_wp2
          go_quiet ((go_at_call 27; exact Calls.quiet_of_same (HC.out _ _)))
          go_wp2
          go_ret
          exact ⟨ret_b HD.out.symm, below_drewN (HBA.out _) _⟩
        · have e4 : (b == cutZ b) = false := beq_eq_false_iff_ne.2 h4
          have HD : Hid (decide (FitsO ⟨code, a, b⟩) = false) := decide_eq_false (fun h => h4 (HB.out.2 (HF.out.1 h).2.2.2))
          clear h3 h4
          go_enter Try.func17, Try.ntmps17
          go_wp2
          go_quiet ((go_at_call 27; exact Calls.quiet_of_same (HC.out _ _)))
          go_wp2
          go_ret
          exact ⟨ret_b HD.out.symm, below_drewN (HBA.out _) _⟩
      · have e3 : (a == cutZ a) = false := beq_eq_false_iff_ne.2 h3
        have HD : Hid (decide (FitsO ⟨code, a, b⟩) = false) := decide_eq_false (fun h => h3 (HA.out.2 (HF.out.1 h).2.2.1))
        clear h3
        go_enter Try.func17, Try.ntmps17
        go_wp2
        go_quiet ((go_at_call 27; exact Calls.quiet_of_same (HC.out _ _)))
        go_wp2
        go_ret
        exact ⟨ret_b HD.out.symm, below_drewN (HBA.out _) _⟩
    · have d2 : decide (code ≤ 10) = false := decide_eq_false h2
      have HD : Hid (decide (FitsO ⟨code, a, b⟩) = false) := decide_eq_false (fun h => h2 (HF.out.1 h).2.1)
      go_enter Try.func17, Try.ntmps17
      go_wp2
      go_quiet ((go_at_call 27; exact Calls.quiet_of_same (HC.out _ _)))
      go_wp2
      go_ret
      exact ⟨ret_b HD.out.symm, below_drewN (HBA.out _) _⟩
  · have d1 : decide (0 ≤ code) = false := decide_eq_false h1
    have HD : Hid (decide (FitsO ⟨code, a, b⟩) = false) := decide_eq_false (fun h => h1 (HF.out.1 h).1)
    go_enter Try.func17, Try.ntmps17
    go_wp2
    go_quiet ((go_at_call 27; exact Calls.quiet_of_same (HC.out _ _)))
    go_wp2
    go_ret
    exact ⟨ret_b HD.out.symm, below_drewN (HBA.out _) _⟩

end Go.Proofs.Ytedfacbngefhnaa

/- Contracts of ferrymanref05: PutOp, GetOp. -/
namespace Go.Proofs.Ytedfacbngefhnaa
open Go.RowKit

/-- What is put: the bytes, and no error; or what was there, and ErrArg. -/
def Putted (w : World) (l : List UInt8) (o : Opn) (e : Ending) (w' : World) : Prop :=
  ∃ v', e = .returned (.tuple #[v', .int .i64 (if FitsO o then 0 else 1)]) ∧ Own w' w.heap.size v' (if FitsO o then l ++ putOpL o else l) ∧ Below w.heap.size w w'

theorem putOf_small {l : List UInt8} {n : Int} (h0 : 0 ≤ n) (h1 : n < 4611686018427387904) : putOf l n = l ++ Lib.uvarint n.toNat := if_pos ⟨h0, h1⟩

theorem uv10 {n : Int} (h : I64 n) : (Lib.uvarint (Lib.zigzag n)).length ≤ 10 := Lib.uvarint_length64 (zig_lt h)

theorem uv10' {n : Nat} (h : n < 4611686018427387904) : (Lib.uvarint n).length ≤ 10 := Lib.uvarint_length64 (by omega)

theorem two_new (w : World) (X Y : Obj) : ((w.alloc X).alloc Y).heap[w.heap.size + 1]? = some Y := by
  have h := heap_alloc_new (w.alloc X) Y
  have e : (w.alloc X).heap.size = w.heap.size + 1 := by simp
  rwa [e] at h

/-- What is got: the operation and how many bytes. -/
def Gotten (w : World) (l : List UInt8) (e : Ending) (w' : World) : Prop :=
  e = .returned (.tuple #[opV (getOpL l).1, .int .i64 ((getOpL l).2 : Nat)]) ∧ Below w.heap.size w w'

end Go.Proofs.Ytedfacbngefhnaa

