/- How the landed delta reads: the plain mathematics; where it stands in memory. -/
import Derived.Test.YtgpdbboieokldaaGreatDeltaNum
import Derived.Test.YtgpdbboieokldaaGreatSnapDecB
import Derived.Test.YtgpdbboieokldaaGreatPack3
namespace Go.Proofs.YtgpdbboieokldaaGreat
open Go.RowKit

def dgP (b : List UInt8) : Int × Nat := (((dec62 b).1 : Nat), (dec62 b).2)

def dgS (b : List UInt8) : Int × Nat := (zag (dec64 b).1, (dec64 b).2)

theorem getsG_P : ∀ (n : Nat) (b : List UInt8), getsG dgP n b = (getsL n b).map (fun r => (r.1.map (fun k : Nat => (k : Int)), r.2))
  | 0, b => rfl
  | n + 1, b => by
    rw [getsG, getsL]
    by_cases h : (dec62 b).2 = 0
    · rw [if_pos (show (dgP b).2 = 0 from h), if_pos h]
      rfl
    · rw [if_neg (show ¬ (dgP b).2 = 0 from h), if_neg h, getsG_P n]
      show Option.map _ (Option.map _ (getsL n (b.drop (dec62 b).2))) = _
      cases getsL n (b.drop (dec62 b).2) with
      | none => rfl
      | some r => rfl

theorem getsG_S : ∀ (n : Nat) (b : List UInt8), getsG dgS n b = (readL n b).map (fun r => (r.1, b.drop r.2))
  | 0, b => rfl
  | n + 1, b => by
    rw [getsG, readL]
    by_cases h : (dec64 b).2 = 0
    · rw [if_pos (show (dgS b).2 = 0 from h), if_pos h]
      rfl
    · rw [if_neg (show ¬ (dgS b).2 = 0 from h), if_neg h, getsG_S n]
      show Option.map _ (Option.map _ (readL n (b.drop (dec64 b).2))) = _
      cases readL n (b.drop (dec64 b).2) with
      | none => rfl
      | some r => simp [dgS, List.drop_drop]

/-- The delta of four numbers, those of Mid, and what stands behind them. -/
def restD (n0 n1 n2 n3 : Nat) (xs : List Int) (m : List UInt8) : Option Delt :=
  (getsL 2 m).bind (fun r => if 3 < r.1.getD 0 0 then none else (readE (r.1.getD 1 0) r.2).bind (fun z => if z.2 = [] then some ⟨(n0 : Nat), (n1 : Nat), (n2 : Nat), (n3 : Nat), xs, decide (0 < r.1.getD 0 0), if 0 < r.1.getD 0 0 then ((r.1.getD 0 0 : Nat) : Int) - 1 else 0, z.1⟩ else none))

theorem readD_eq (b : List UInt8) : readD b = (getsL 5 b).bind (fun r => if 128 < r.1.getD 4 0 then none else (readL (r.1.getD 4 0) r.2).bind (fun q => restD (r.1.getD 0 0) (r.1.getD 1 0) (r.1.getD 2 0) (r.1.getD 3 0) q.1 (r.2.drop q.2))) := by
  unfold readD
  cases getsL 5 b with
  | none => rfl
  | some r =>
    obtain ⟨ns, l⟩ := r
    simp only [Option.bind_some]
    by_cases h : 128 < ns.getD 4 0
    · rw [if_pos h, if_pos h]
    rw [if_neg h, if_neg h]
    cases readL (ns.getD 4 0) l with
    | none => rfl
    | some q =>
      obtain ⟨xs, u⟩ := q
      simp only [Option.bind_some]
      unfold restD
      rw [getsL_two]
      generalize l.drop u = m
      by_cases h1 : (dec62 m).2 = 0
      · rw [if_pos (.inl h1), if_pos h1]
        rfl
      rw [if_neg h1]
      by_cases h2 : 3 < (dec62 m).1
      · rw [if_pos (.inr h2)]
        by_cases h3 : (dec62 (m.drop (dec62 m).2)).2 = 0
        · rw [if_pos h3]
          rfl
        · rw [if_neg h3]
          simp only [Option.bind_some, List.getD_cons_zero]
          rw [if_pos h2]
      rw [if_neg (by rintro (h | h) <;> first | exact h1 h | exact h2 h)]
      by_cases h3 : (dec62 (m.drop (dec62 m).2)).2 = 0
      · rw [if_pos h3]
        have ht : tableL (m.drop (dec62 m).2) = none := by unfold tableL; rw [if_pos (.inl h3)]
        rw [ht]
        rfl
      · rw [if_neg h3, tableL_plain h3]
        simp only [Option.bind_some, List.getD_cons_zero, List.getD_cons_succ]
        rw [if_neg h2]
        cases readE (dec62 (m.drop (dec62 m).2)).1 ((m.drop (dec62 m).2).drop (dec62 (m.drop (dec62 m).2)).2) with
        | none => rfl
        | some z =>
          simp only [Option.bind_some]
          by_cases h4 : z.2 = []
          · rw [if_pos h4, if_pos h4]
          · rw [if_neg h4, if_neg h4]

/-- A box of one number. -/
def Bi (w : World) (b : Nat) (n : Int) : Prop := w.heap[b]? = some (.cells #[.int .i64 n] 3 (0, 0))

theorem Bi.lt {w : World} {b : Nat} {n : Int} (h : Bi w b n) : b < w.heap.size := (Array.getElem?_eq_some_iff.1 h).1

theorem Bi.cell {w : World} {b : Nat} {n : Int} (h : Bi w b n) : w.cell? ⟨b, 0, none⟩ = some (.int .i64 n) ∧ w.frozen? ⟨b, 0, none⟩ = false :=
  ⟨(cell_of_row w b 0 _ _ _ h).trans rfl, frozen_of_row w b 0 _ _ h⟩

theorem Bi.set {w : World} {b : Nat} {n : Int} (h : Bi w b n) (m : Int) : Bi (w.setCell ⟨b, 0, none⟩ (.int .i64 m)) b m := by
  have := heap_setCell_same w b 0 _ _ (.int .i64 m) h
  unfold Bi
  simpa using this

/-- Where readData stands: the answer's box at N, then the delta's, three of numbers, the reader's. -/
structure DIn (w W : World) (cs : Array Value) (cn sl et : Int) (vb : Value) : Prop where
  res : Bd W w.heap.size #[.int .i64 0, .int .i64 0, .int .i64 0, .int .i64 0, .slice none 0 0, .bool false, .int .i64 0, .slice none 0 0]
  box : Bd W (w.heap.size + 1) cs
  cnt : Bi W (w.heap.size + 1 + 1) cn
  sea : Bi W (w.heap.size + 1 + 1 + 1) sl
  ent : Bi W (w.heap.size + 1 + 1 + 1 + 1) et
  cap : Bv W (w.heap.size + 1 + 1 + 1 + 1 + 1) vb
  below : Below w.heap.size w W

theorem DIn.lt {w W : World} {cs : Array Value} {cn sl et : Int} {vb : Value} (h : DIn w W cs cn sl et vb) : w.heap.size + 1 + 1 + 1 + 1 + 1 < W.heap.size := h.cap.lt

theorem DIn.more {w W W' : World} {cs : Array Value} {cn sl et : Int} {vb : Value} (h : DIn w W cs cn sl et vb) (hb : Below W.heap.size W W') : DIn w W' cs cn sl et vb := by
  have hl := h.lt
  exact ⟨(hb.block _ (by omega)).trans h.res, (hb.block _ (by omega)).trans h.box, (hb.block _ (by omega)).trans h.cnt, (hb.block _ (by omega)).trans h.sea, (hb.block _ (by omega)).trans h.ent, (hb.block _ (by omega)).trans h.cap, h.below.trans (hb.mono h.below.size)⟩

theorem DIn.alloc {w W : World} {cs : Array Value} {cn sl et : Int} {vb : Value} (h : DIn w W cs cn sl et vb) (X : Obj) : DIn w (W.alloc X) cs cn sl et vb := h.more ((Below.refl _ _).alloc (Nat.le_refl _) X)

theorem DIn.alike {w X W : World} {cs : Array Value} {cn sl et : Int} {vb v' : Value} (h : DIn w X cs cn sl et vb) (ha : AlikeB (w.heap.size + 1 + 1 + 1 + 1 + 1) X W) (hv : Bv W (w.heap.size + 1 + 1 + 1 + 1 + 1) v') : DIn w W cs cn sl et v' :=
  ⟨(ha.block _ (by omega)).trans h.res, (ha.block _ (by omega)).trans h.box, (ha.block _ (by omega)).trans h.cnt, (ha.block _ (by omega)).trans h.sea, (ha.block _ (by omega)).trans h.ent, hv, ha.below (by omega) h.below⟩

theorem DIn.setBox {w W : World} {cs : Array Value} {cn sl et : Int} {vb : Value} (h : DIn w W cs cn sl et vb) (j : Nat) (x : Value) : DIn w (W.setCell ⟨w.heap.size + 1, j, none⟩ x) (cs.setIfInBounds j x) cn sl et vb :=
  ⟨h.res.other _ _ (by omega), h.box.set j x, (Below.heap_setCell _ _ _ _ (by show _ ≠ w.heap.size + 1; omega)).trans h.cnt, (Below.heap_setCell _ _ _ _ (by show _ ≠ w.heap.size + 1; omega)).trans h.sea, (Below.heap_setCell _ _ _ _ (by show _ ≠ w.heap.size + 1; omega)).trans h.ent, h.cap.other _ _ (by omega), h.below.setCell (by show _ ≤ w.heap.size + 1; omega) _⟩

theorem DIn.setCnt {w W : World} {cs : Array Value} {cn sl et : Int} {vb : Value} (h : DIn w W cs cn sl et vb) (n : Int) : DIn w (W.setCell ⟨w.heap.size + 1 + 1, 0, none⟩ (.int .i64 n)) cs n sl et vb :=
  ⟨h.res.other _ _ (by omega), h.box.other _ _ (by omega), h.cnt.set n, (Below.heap_setCell _ _ _ _ (by show _ ≠ w.heap.size + 1 + 1; omega)).trans h.sea, (Below.heap_setCell _ _ _ _ (by show _ ≠ w.heap.size + 1 + 1; omega)).trans h.ent, h.cap.other _ _ (by omega), h.below.setCell (by show _ ≤ w.heap.size + 1 + 1; omega) _⟩

theorem DIn.setSea {w W : World} {cs : Array Value} {cn sl et : Int} {vb : Value} (h : DIn w W cs cn sl et vb) (n : Int) : DIn w (W.setCell ⟨w.heap.size + 1 + 1 + 1, 0, none⟩ (.int .i64 n)) cs cn n et vb :=
  ⟨h.res.other _ _ (by omega), h.box.other _ _ (by omega), (Below.heap_setCell _ _ _ _ (by show _ ≠ w.heap.size + 1 + 1 + 1; omega)).trans h.cnt, h.sea.set n, (Below.heap_setCell _ _ _ _ (by show _ ≠ w.heap.size + 1 + 1 + 1; omega)).trans h.ent, h.cap.other _ _ (by omega), h.below.setCell (by show _ ≤ w.heap.size + 1 + 1 + 1; omega) _⟩

theorem DIn.setEnt {w W : World} {cs : Array Value} {cn sl et : Int} {vb : Value} (h : DIn w W cs cn sl et vb) (n : Int) : DIn w (W.setCell ⟨w.heap.size + 1 + 1 + 1 + 1, 0, none⟩ (.int .i64 n)) cs cn sl n vb :=
  ⟨h.res.other _ _ (by omega), h.box.other _ _ (by omega), (Below.heap_setCell _ _ _ _ (by show _ ≠ w.heap.size + 1 + 1 + 1 + 1; omega)).trans h.cnt, (Below.heap_setCell _ _ _ _ (by show _ ≠ w.heap.size + 1 + 1 + 1 + 1; omega)).trans h.sea, h.ent.set n, h.cap.other _ _ (by omega), h.below.setCell (by show _ ≤ w.heap.size + 1 + 1 + 1 + 1; omega) _⟩

theorem DIn.far {w W : World} {cs : Array Value} {cn sl et : Int} {vb : Value} (h : DIn w W cs cn sl et vb) {M : Nat} (hM : w.heap.size + 1 + 1 + 1 + 1 + 1 < M) (j : Nat) (x : Value) : DIn w (W.setCell ⟨M, j, none⟩ x) cs cn sl et vb :=
  ⟨h.res.other _ _ (by omega), h.box.other _ _ (by omega), (Below.heap_setCell _ _ _ _ (by show _ ≠ M; omega)).trans h.cnt, (Below.heap_setCell _ _ _ _ (by show _ ≠ M; omega)).trans h.sea, (Below.heap_setCell _ _ _ _ (by show _ ≠ M; omega)).trans h.ent, h.cap.other _ _ (by omega), h.below.setCell (by show _ ≤ M; omega) _⟩

/-- What is left when reading has failed. -/
theorem ReadR.failed {w W W' : World} {cs : Array Value} {cn sl et : Int} {vb : Value} (h : DIn w W cs cn sl et vb) {ps : List (Nat × Nat)} (hps : ∀ p ∈ ps, w.heap.size < p.1) {ns : List Int} (ha : AlikeB (w.heap.size + 1 + 1 + 1 + 1 + 1) (setAtI W (ps.take ns.length) ns) W') :
    Bd W' w.heap.size #[.int .i64 0, .int .i64 0, .int .i64 0, .int .i64 0, .slice none 0 0, .bool false, .int .i64 0, .slice none 0 0] ∧ Below w.heap.size w W' :=
  ⟨(ha.block _ (by omega)).trans ((setAtI_block W _ ns _ (fun p hp => by have := hps p (List.mem_of_mem_take hp); omega)).trans h.res), ha.below (by omega) (setAtI_below W _ ns _ w (fun p hp => Nat.le_of_lt (hps p (List.mem_of_mem_take hp))) h.below)⟩

theorem NumAt.alloc {W : World} {p : Nat × Nat} (h : NumAt W p) (X : Obj) : NumAt (W.alloc X) p := by
  obtain ⟨⟨x, hx⟩, hf⟩ := h
  have hlt : p.1 < W.heap.size := World.block_lt_of_cell? _ _ hx
  have hb : (W.alloc X).heap[p.1]? = W.heap[p.1]? := Below.heap_alloc _ _ _ hlt
  refine ⟨⟨x, (World.cell?_of_block (a := ⟨p.1, p.2, none⟩) hb).trans hx⟩, ?_⟩
  rw [← hf]
  simp only [World.frozen?, hb]

theorem NumAt.lt {W : World} {p : Nat × Nat} (h : NumAt W p) : p.1 < W.heap.size := by
  obtain ⟨⟨x, hx⟩, -⟩ := h
  exact World.block_lt_of_cell? _ _ hx

/-- Reading into places, where readData stands. -/
theorem readAt (g : Nat) (dg : List UInt8 → Int × Nat) (eg : ∀ args W, (callFunc g args).run Tryz.prog W = .ok (.enter g args) W)
    (hg : ∀ v l W, Rd W v l → Calls Tryz.prog g #[v] W fun e w' => e = .returned (.tuple #[.int .i64 (dg l).1, .int .i64 ((dg l).2 : Nat)]) ∧ w' = W) (hdl : ∀ l, (dg l).2 ≤ l.length) (hdi : ∀ l, I64 (dg l).1)
    {w W : World} {cs : Array Value} {cn sl et : Int} {vk : Value} (h : DIn w W cs cn sl et vk) {v : Value} {b lk : List UInt8} (hv : Rd w v b) (hV : ∀ X, Rd X v b → Rd X vk lk)
    (ps : List (Nat × Nat)) (hps : ∀ p ∈ ps, NumAt W p ∧ w.heap.size < p.1 ∧ p.1 ≠ w.heap.size + 1 + 1 + 1 + 1 + 1) (hlim : ps.length ≤ 100) (row : Array Value) (hrow : row = (ps.map (fun p => Value.pointer (some ⟨p.1, p.2, none⟩))).toArray) (N k : Nat) (hN : N = W.heap.size) (hk : k = ps.length) :
    Calls Tryz.prog 87 #[.func (.func g) #[] #[], .slice (some ⟨N, 0, none⟩) k k, .pointer (some ⟨w.heap.size + 1 + 1 + 1 + 1 + 1, 0, none⟩)] (W.alloc (.cells row 85)) fun e w' => ReadR (W.alloc (.cells row 85)) (w.heap.size + 1 + 1 + 1 + 1 + 1) vk lk ps (getsG dg ps.length lk) e w' := by
  subst hN hrow
  have hl := h.lt
  refine readD1_any g dg eg hg hdl hdi W.heap.size _ ps vk lk _ (h.alloc _).cap (fun ns W' ha => ?_) (fun p hp => ?_) (by omega) hlim (heap_alloc_new W _) k hk
  · exact hV W' (hv.below (ha.below (by omega) (setAtI_below _ _ ns _ w (fun p hp => Nat.le_of_lt (hps p (List.mem_of_mem_take hp)).2.1) (h.alloc _).below)) (Nat.le_refl _))
  · obtain ⟨h1, h2, h3⟩ := hps p hp
    exact ⟨h1.alloc _, by have := h1.lt; omega, h3⟩

end Go.Proofs.YtgpdbboieokldaaGreat
