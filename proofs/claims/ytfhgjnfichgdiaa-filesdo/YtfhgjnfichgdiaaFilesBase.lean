/- A disk of the landed files in memory: what it is made of, and how that lasts. -/
import Derived.Test.YtfhgjnfichgdiaaNumBase
import Derived.Test.YtfhgjnfichgdiaaFilesMap
import Derived.Test.YtfhgjnfichgdiaaFilesPlain
namespace Go.Proofs.Ytfhgjnfichgdiaa
open Go.RowKit

/-- Of what was there only blocks of F are changed. -/
structure Only (F : Nat → Prop) (w w' : World) : Prop where
  os : w'.os = w.os
  tape : w'.tape = w.tape
  output : w'.output = w.output
  size : w.heap.size ≤ w'.heap.size
  block : ∀ k, k < w.heap.size → ¬ F k → w'.heap[k]? = w.heap[k]?

theorem Only.refl (F : Nat → Prop) (w : World) : Only F w w := ⟨rfl, rfl, rfl, Nat.le_refl _, fun _ _ _ => rfl⟩

theorem Only.trans {F G : Nat → Prop} {a b c : World} (h : Only F a b) (k : Only G b c) (hG : ∀ x, x < a.heap.size → G x → F x) : Only F a c :=
  ⟨k.os.trans h.os, k.tape.trans h.tape, k.output.trans h.output, Nat.le_trans h.size k.size, fun i hi hn => (k.block i (Nat.lt_of_lt_of_le hi h.size) (fun hg => hn (hG i hi hg))).trans (h.block i hi hn)⟩

theorem Only.mono {F G : Nat → Prop} {w w' : World} (h : Only F w w') (hG : ∀ k, F k → G k) : Only G w w' := ⟨h.os, h.tape, h.output, h.size, fun k hk hn => h.block k hk fun hf => hn (hG k hf)⟩

theorem Only.ofGrown {F : Nat → Prop} {w w' : World} {row : Option Nat} (h : w.grownBy w' row) (hr : ∀ k, row = some k → k < w.heap.size → F k) : Only F w w' :=
  ⟨h.os, h.tape, h.output, h.size, fun k hk hn => h.block k hk fun e => hn (hr k e.symm hk)⟩

theorem Only.ofBelow {F : Nat → Prop} {w w' : World} (h : Below w.heap.size w w') : Only F w w' := ⟨h.os, h.tape, h.output, h.size, fun k hk _ => h.block k hk⟩

theorem Only.below {F : Nat → Prop} {w w' : World} {B : Nat} (h : Only F w w') (hB : B ≤ w.heap.size) (hF : ∀ k, F k → B ≤ k) : Below B w w' :=
  ⟨h.os, h.tape, h.output, h.size, fun k hk => h.block k (Nat.lt_of_lt_of_le hk hB) fun hf => by have := hF k hf; omega⟩

theorem Only.setCell {F : Nat → Prop} {a w : World} (h : Only F a w) {b : Nat} (i : Nat) (hb : b < a.heap.size → F b) (x : Value) : Only F a (w.setCell ⟨b, i, none⟩ x) := by
  have hb0 := (Below.refl 0 w).setCell (p := ⟨b, i, none⟩) (Nat.zero_le _) x
  refine ⟨hb0.os.trans h.os, hb0.tape.trans h.tape, hb0.output.trans h.output, Nat.le_trans h.size hb0.size, fun k hk hn => ?_⟩
  rw [Below.heap_setCell _ _ _ _ (show k ≠ b by rintro rfl; exact hn (hb hk))]
  exact h.block k hk hn

theorem Only.alloc {F : Nat → Prop} {a w : World} (h : Only F a w) (o : Obj) : Only F a (w.alloc o) :=
  h.trans (G := fun _ => False) (Only.ofBelow ((Below.refl _ _).alloc (Nat.le_refl _) o)) (fun _ _ hf => hf.elim)

theorem Only.drewN {F : Nat → Prop} {a w : World} (h : Only F a w) (n : Nat) : Only F a (w.drewN n) := ⟨h.os, h.tape, h.output, h.size, h.block⟩

theorem Rd.only {w w' : World} {v : Value} {l : List UInt8} (h : Rd w v l) {F : Nat → Prop} (ho : Only F w w') (hv : ∀ k, v.ownBlock = some k → ¬ F k) : Rd w' v l := by
  obtain ⟨ao, cap, rfl, h2, h3, hn, h4⟩ := h
  refine ⟨ao, cap, rfl, h2, h3, hn, ?_⟩
  rcases h4 with h4 | ⟨b, off, rfl, h6⟩
  · exact .inl h4
  · refine .inr ⟨b, off, rfl, fun j hj => ?_⟩
    have hc := h6 j hj
    have hlt : b < w.heap.size := World.block_lt_of_cell? w ⟨b, off + j, none⟩ hc
    rw [World.cell?_of_block (a := ⟨b, off + j, none⟩) (ho.block b hlt (hv b rfl))]
    exact hc

theorem RdI.only {w w' : World} {v : Value} {l : List Int} (h : RdI w v l) {F : Nat → Prop} (ho : Only F w w') (hv : ∀ k, v.ownBlock = some k → ¬ F k) : RdI w' v l := by
  obtain ⟨ao, cap, rfl, h2, h3, hn, hi, h4⟩ := h
  refine ⟨ao, cap, rfl, h2, h3, hn, hi, ?_⟩
  rcases h4 with h4 | ⟨b, off, rfl, h6⟩
  · exact .inl h4
  · refine .inr ⟨b, off, rfl, fun j hj => ?_⟩
    have hc := h6 j hj
    have hlt : b < w.heap.size := World.block_lt_of_cell? w ⟨b, off + j, none⟩ hc
    rw [World.cell?_of_block (a := ⟨b, off + j, none⟩) (ho.block b hlt (hv b rfl))]
    exact hc

theorem Rd.onlyE {w w' : World} {v : Value} {l : List UInt8} (h : Rd w v l) {F : Nat → Prop} (ho : Only F w w') (hv : l = [] ∨ ∀ k, v.ownBlock = some k → ¬ F k) : Rd w' v l := by
  rcases hv with rfl | hv
  · obtain ⟨ao, cap, rfl, h2, h3, hn, h4⟩ := h
    exact ⟨ao, cap, rfl, h2, h3, hn, .inl rfl⟩
  · exact h.only ho hv

theorem RdI.onlyE {w w' : World} {v : Value} {l : List Int} (h : RdI w v l) {F : Nat → Prop} (ho : Only F w w') (hv : l = [] ∨ ∀ k, v.ownBlock = some k → ¬ F k) : RdI w' v l := by
  rcases hv with rfl | hv
  · obtain ⟨ao, cap, rfl, h2, h3, hn, hi, h4⟩ := h
    exact ⟨ao, cap, rfl, h2, h3, hn, hi, .inl rfl⟩
  · exact h.only ho hv

/-- A block of cells. -/
def Bk (t : TypeId) (w : World) (b : Nat) (cs : Array Value) : Prop := w.heap[b]? = some (.cells cs t (0, 0))

theorem Bk.lt {t : TypeId} {w : World} {b : Nat} {cs : Array Value} (h : Bk t w b cs) : b < w.heap.size := (Array.getElem?_eq_some_iff.1 h).1

theorem Bk.keep {t : TypeId} {w w' : World} {b : Nat} {cs : Array Value} (h : Bk t w b cs) (hk : w'.heap[b]? = w.heap[b]?) : Bk t w' b cs := hk.trans h

theorem Bk.cell {t : TypeId} {w : World} {b : Nat} {cs : Array Value} (h : Bk t w b cs) (j : Nat) {x : Value} (hx : cs[j]? = some x) : w.cell? ⟨b, j, none⟩ = some x ∧ w.frozen? ⟨b, j, none⟩ = false :=
  ⟨(cell_of_row w b j _ _ _ h).trans hx, frozen_of_row w b j _ _ h⟩

theorem Bk.set {t : TypeId} {w : World} {b : Nat} {cs : Array Value} (h : Bk t w b cs) (j : Nat) (x : Value) : Bk t (w.setCell ⟨b, j, none⟩ x) b (cs.setIfInBounds j x) := by
  have := heap_setCell_same w b j _ _ x h
  unfold Bk
  simpa using this

theorem Bk.other {t : TypeId} {w : World} {b : Nat} {cs : Array Value} (h : Bk t w b cs) (c j : Nat) (x : Value) (hne : b ≠ c) : Bk t (w.setCell ⟨c, j, none⟩ x) b cs :=
  (Below.heap_setCell _ _ _ _ hne).trans h

theorem Bk.ne {t t' : TypeId} {w : World} {b b' : Nat} {cs cs' : Array Value} (h : Bk t w b cs) (h' : Bk t' w b' cs') (ht : t ≠ t') : b ≠ b' := by
  rintro rfl
  unfold Bk at h h'
  rw [h] at h'
  simp only [Option.some.injEq, Obj.cells.injEq] at h'
  exact ht h'.2.1

theorem Bk.neMap {t : TypeId} {w : World} {b m n : Nat} {cs : Array Value} {f : Int → Option Nat} (h : Bk t w b cs) (hm : MapP w m n f) : b ≠ m := hm.apart h

/-- Of a row, if there is one. -/
theorem ownBk {w : World} {base n : Nat} {t : TypeId} {v : Value} {xs : List Value} (h : w.ownsRow base t 1 v n xs) {g : Nat} (hg : v.ownBlock = some g) : ∃ cs, Bk t w g cs := by
  rcases h.2 with ⟨hv, _⟩ | ⟨g', cap, cur, hv, _, hb, _⟩
  · rw [hv] at hg; cases hg
  · rw [hv] at hg
    obtain rfl : g' = g := by simpa [Value.ownBlock] using hg
    exact ⟨cur, hb⟩

theorem ownsRow_keep {w w' : World} {base n s : Nat} {t : TypeId} {v : Value} {xs : List Value} (h : w.ownsRow base t s v n xs) (hk : ∀ g, v.ownBlock = some g → w'.heap[g]? = w.heap[g]?) : w'.ownsRow base t s v n xs := by
  obtain ⟨h1, h2⟩ := h
  refine ⟨h1, ?_⟩
  rcases h2 with h2 | ⟨g, cap, cur, hv, hbg, hg, r⟩
  · exact .inl h2
  · exact .inr ⟨g, cap, cur, hv, hbg, (hk g (by rw [hv]; rfl)).trans hg, r⟩

theorem Own.shape {w : World} {B : Nat} {v : Value} {l : List UInt8} (h : Own w B v l) : ∃ ao cap, v = .slice ao l.length cap := by
  obtain ⟨ao, cap, hv, _⟩ := h.rd
  exact ⟨ao, cap, hv⟩

/-- The first bytes of a row. -/
theorem Own.front {w : World} {B : Nat} {ao : Option Addr} {n cap : Nat} {l : List UInt8} (h : Own w B (.slice ao n cap) l) (k : Nat) (hk : k ≤ l.length) : Own w B (.slice ao k cap) (l.take k) := by
  obtain ⟨h1, h2⟩ := h
  have hlen : (l.take k).length = k := by simp; omega
  refine ⟨by rw [byteCells_length, Nat.mul_one], ?_⟩
  rcases h2 with ⟨hv, hn⟩ | ⟨g, cp, cur, hv, hbg, hg, hnc, hcm, hcs, ht⟩
  · left
    simp only [Value.slice.injEq] at hv
    obtain ⟨rfl, rfl, rfl⟩ := hv
    have : k = 0 := by omega
    subst this
    exact ⟨rfl, by rw [hlen]⟩
  · right
    simp only [Value.slice.injEq] at hv
    obtain ⟨rfl, hnn, rfl⟩ := hv
    refine ⟨g, cap, cur, by rw [hlen], hbg, hg, by rw [hlen]; omega, hcm, hcs, ?_⟩
    rw [Nat.mul_one] at ht ⊢
    rw [hlen]
    have e : Lib.byteCells (l.take k) = (Lib.byteCells l).take k := by simp [Lib.byteCells]
    rw [e, ← ht, List.take_take, Nat.min_eq_left hk]

/-- A file in memory. -/
structure FileV (w : World) (b : Nat) (v : Value) (x : Fl) : Prop where
  box : Bk 70 w b #[v, .int .i64 (x.k : Int)]
  own : Own w 0 v x.b

theorem FileV.keep {w w' : World} {b : Nat} {v : Value} {x : Fl} (h : FileV w b v x) (h1 : w'.heap[b]? = w.heap[b]?) (h2 : ∀ g, v.ownBlock = some g → w'.heap[g]? = w.heap[g]?) : FileV w' b v x :=
  ⟨h.box.keep h1, ownsRow_keep h.own h2⟩

/-- A pointer to a block. -/
abbrev ptr (b : Nat) : Value := .pointer (some ⟨b, 0, none⟩)

/-- A change in memory: a closure, and the variables that it has. -/
def ChV (F : Nat → Prop) (w : World) (ps : Nat → Nat) : Ch → Value → Prop
  | .give n f, v => ∃ b1 b2, v = .func (.func 53) #[] #[ptr b2, ptr b1] ∧ Bk 3 w b1 #[.int .i64 n] ∧ Bk 67 w b2 #[ptr (ps f)] ∧ F b1 ∧ F b2
  | .move n to f, v => ∃ b1 b2 b3, v = .func (.func 57) #[] #[ptr b3, ptr b2, ptr b1] ∧ Bk 3 w b1 #[.int .i64 n] ∧ Bk 3 w b2 #[.int .i64 to] ∧ Bk 67 w b3 #[ptr (ps f)] ∧ F b1 ∧ F b2 ∧ F b3
  | .take n, v => ∃ b1, v = .func (.func 58) #[] #[ptr b1] ∧ Bk 3 w b1 #[.int .i64 n] ∧ F b1

def chOf : Ch → Option Nat
  | .give _ f => some f
  | .move _ _ f => some f
  | .take _ => none

theorem ChV.keep {F F' : Nat → Prop} {w w' : World} {ps ps' : Nat → Nat} {c : Ch} {v : Value} (h : ChV F w ps c v) (hF : ∀ k, F k → F' k) (hp : ∀ f, chOf c = some f → ps' f = ps f)
    (hk : ∀ k cs, F k → (Bk 3 w k cs ∨ Bk 67 w k cs) → w'.heap[k]? = w.heap[k]?) : ChV F' w' ps' c v := by
  cases c with
  | give n f =>
    obtain ⟨b1, b2, rfl, h1, h2, f1, f2⟩ := h
    exact ⟨b1, b2, rfl, h1.keep (hk _ _ f1 (.inl h1)), by rw [hp f rfl]; exact h2.keep (hk _ _ f2 (.inr h2)), hF _ f1, hF _ f2⟩
  | move n to f =>
    obtain ⟨b1, b2, b3, rfl, h1, h2, h3, f1, f2, f3⟩ := h
    exact ⟨b1, b2, b3, rfl, h1.keep (hk _ _ f1 (.inl h1)), h2.keep (hk _ _ f2 (.inl h2)), by rw [hp f rfl]; exact h3.keep (hk _ _ f3 (.inr h3)), hF _ f1, hF _ f2, hF _ f3⟩
  | take n =>
    obtain ⟨b1, rfl, h1, f1⟩ := h
    exact ⟨b1, rfl, h1.keep (hk _ _ f1 (.inl h1)), hF _ f1⟩

/-- Where a disk's parts lie. -/
structure Lay where
  now : Nat
  kept : Nat
  wv : Value
  cs : List Value
  ps : Nat → Nat
  vs : Nat → Value

/-- A disk's parts, its head apart. -/
structure RestL (F : Nat → Prop) (w : World) (L : Lay) (d : Dk) (N : Nat) : Prop where
  now : MapP w L.now N (fun n => (look (dirD d) n).map L.ps)
  kept : MapP w L.kept N (fun n => (look d.kept n).map L.ps)
  row : w.ownsRow 0 73 1 L.wv L.cs.length L.cs
  many : L.cs.length = d.waits.length
  wait : ∀ (i : Nat) c v, d.waits[i]? = some c → L.cs[i]? = some v → ChV F w L.ps c v
  file : ∀ i, i < d.files.length → FileV w (L.ps i) (L.vs i) (fl d.files i)
  psn : ∀ i j, i < d.files.length → j < d.files.length → i ≠ j → L.ps i ≠ L.ps j
  vsn : ∀ i j, i < d.files.length → j < d.files.length → i ≠ j → ∀ g, (L.vs i).ownBlock = some g → (L.vs j).ownBlock ≠ some g
  nk : L.now ≠ L.kept
  fn : F L.now
  fk : F L.kept
  fw : ∀ g, L.wv.ownBlock = some g → F g
  fp : ∀ i, i < d.files.length → F (L.ps i)
  fv : ∀ i, i < d.files.length → ∀ g, (L.vs i).ownBlock = some g → F g

def headC (L : Lay) (d : Dk) (u : Int) : Array Value := #[.int .i64 d.room, .int .i64 u, .map (some L.now), .map (some L.kept), L.wv, .int .i64 d.power]

/-- A disk in memory, at p; u: how many bytes it counts. -/
structure DiskL (F : Nat → Prop) (w : World) (p : Nat) (L : Lay) (d : Dk) (u : Int) (N : Nat) : Prop where
  head : Bk 55 w p (headC L d u)
  rest : RestL F w L d N
  fh : F p
  lt : ∀ k, F k → k < w.heap.size

/-- The head is none of the parts. -/
theorem RestL.keep {F : Nat → Prop} {w w' : World} {L : Lay} {d : Dk} {N p : Nat} {cs : Array Value} (h : RestL F w L d N) (hp : Bk 55 w p cs) (hk : ∀ k, F k → k ≠ p → w'.heap[k]? = w.heap[k]?) : RestL F w' L d N where
  now := h.now.keep (hk _ h.fn (hp.neMap h.now).symm)
  kept := h.kept.keep (hk _ h.fk (hp.neMap h.kept).symm)
  row := ownsRow_keep h.row fun g hg => hk g (h.fw g hg) (by obtain ⟨cs', hb⟩ := ownBk h.row hg; exact hb.ne hp (by decide))
  many := h.many
  wait := fun i c v h1 h2 => (h.wait i c v h1 h2).keep (fun _ hf => hf) (fun _ _ => rfl) (fun k cs' hf hb => hk k hf (by rcases hb with hb | hb <;> exact hb.ne hp (by decide)))
  file := fun i hi => (h.file i hi).keep (hk _ (h.fp i hi) ((h.file i hi).box.ne hp (by decide))) fun g hg => hk g (h.fv i hi g hg) (by obtain ⟨cs', hb⟩ := ownBk (h.file i hi).own hg; exact hb.ne hp (by decide))
  psn := h.psn
  vsn := h.vsn
  nk := h.nk
  fn := h.fn
  fk := h.fk
  fw := h.fw
  fp := h.fp
  fv := h.fv

/-- The power is no part of the rest. -/
theorem RestL.power {F : Nat → Prop} {w : World} {L : Lay} {d : Dk} {N : Nat} (h : RestL F w L d N) (q : Int) : RestL F w L { d with power := q } N :=
  ⟨h.now, h.kept, h.row, h.many, h.wait, h.file, h.psn, h.vsn, h.nk, h.fn, h.fk, h.fw, h.fp, h.fv⟩

theorem RestL.mono {F : Nat → Prop} {w : World} {L : Lay} {d : Dk} {N N' : Nat} (h : RestL F w L d N) (hN : N ≤ N') : RestL F w L d N' :=
  ⟨h.now.mono hN, h.kept.mono hN, h.row, h.many, h.wait, h.file, h.psn, h.vsn, h.nk, h.fn, h.fk, h.fw, h.fp, h.fv⟩

theorem DiskL.setHead {F : Nat → Prop} {w : World} {p : Nat} {L : Lay} {d : Dk} {u : Int} {N : Nat} (h : DiskL F w p L d u N) (j : Nat) (x : Value) {d' : Dk} {u' : Int} (hd : d'.files = d.files ∧ d'.kept = d.kept ∧ d'.waits = d.waits)
    (he : (headC L d u).setIfInBounds j x = headC L d' u') : DiskL F (w.setCell ⟨p, j, none⟩ x) p L d' u' N := by
  refine ⟨by rw [← he]; exact h.head.set j x, ?_, h.fh, fun k hk => ?_⟩
  · have hr := h.rest.keep h.head (w' := w.setCell ⟨p, j, none⟩ x) (fun k _ hne => Below.heap_setCell _ _ _ _ hne)
    obtain ⟨rm, fs, kp, ws, pw⟩ := d
    obtain ⟨rm', fs', kp', ws', pw'⟩ := d'
    obtain ⟨rfl, rfl, rfl⟩ := hd
    exact ⟨hr.now, hr.kept, hr.row, hr.many, hr.wait, hr.file, hr.psn, hr.vsn, hr.nk, hr.fn, hr.fk, hr.fw, hr.fp, hr.fv⟩
  · have := h.lt k hk
    have hs := ((Below.refl 0 w).setCell (p := ⟨p, j, none⟩) (Nat.zero_le _) x).size
    omega

theorem DiskL.keep {F : Nat → Prop} {w w' : World} {p : Nat} {L : Lay} {d : Dk} {u : Int} {N : Nat} (h : DiskL F w p L d u N) (hk : ∀ k, F k → w'.heap[k]? = w.heap[k]?) (hs : w.heap.size ≤ w'.heap.size) : DiskL F w' p L d u N :=
  ⟨h.head.keep (hk p h.fh), h.rest.keep h.head (fun k hf _ => hk k hf), h.fh, fun k hf => by have := h.lt k hf; omega⟩

/-- Whatever else is done. -/
theorem DiskL.only {F G : Nat → Prop} {w w' : World} {p : Nat} {L : Lay} {d : Dk} {u : Int} {N : Nat} (h : DiskL F w p L d u N) (ho : Only G w w') (hFG : ∀ k, F k → ¬ G k) : DiskL F w' p L d u N :=
  h.keep (fun k hf => ho.block k (h.lt k hf) (hFG k hf)) ho.size

theorem DiskL.cells {F : Nat → Prop} {w : World} {p : Nat} {L : Lay} {d : Dk} {u : Int} {N : Nat} (h : DiskL F w p L d u N) :
    (w.cell? ⟨p, 0, none⟩ = some (.int .i64 d.room) ∧ w.cell? ⟨p, 1, none⟩ = some (.int .i64 u) ∧ w.cell? ⟨p, 2, none⟩ = some (.map (some L.now)) ∧ w.cell? ⟨p, 3, none⟩ = some (.map (some L.kept)) ∧ w.cell? ⟨p, 4, none⟩ = some L.wv ∧ w.cell? ⟨p, 5, none⟩ = some (.int .i64 d.power)) ∧
    w.frozen? ⟨p, 1, none⟩ = false ∧ w.frozen? ⟨p, 3, none⟩ = false ∧ w.frozen? ⟨p, 4, none⟩ = false ∧ w.frozen? ⟨p, 5, none⟩ = false :=
  ⟨⟨(h.head.cell 0 rfl).1, (h.head.cell 1 rfl).1, (h.head.cell 2 rfl).1, (h.head.cell 3 rfl).1, (h.head.cell 4 rfl).1, (h.head.cell 5 rfl).1⟩, (h.head.cell 1 rfl).2, (h.head.cell 3 rfl).2, (h.head.cell 4 rfl).2, (h.head.cell 5 rfl).2⟩

/-- A file that is changed. -/
theorem DiskL.setFile {F F' : Nat → Prop} {w w' : World} {p : Nat} {L : Lay} {d : Dk} {u : Int} {N f : Nat} (h : DiskL F w p L d u N) (hf : f < d.files.length) {v' : Value} {x' : Fl}
    (hk : ∀ k, F k → k ≠ L.ps f → (L.vs f).ownBlock ≠ some k → w'.heap[k]? = w.heap[k]?)
    (hv : FileV w' (L.ps f) v' x') (hr : v'.ownBlock = (L.vs f).ownBlock ∨ ∀ g, v'.ownBlock = some g → w.heap.size ≤ g)
    (hF : ∀ k, F k → F' k) (hF' : ∀ g, v'.ownBlock = some g → F' g) (hlt : ∀ k, F' k → k < w'.heap.size) :
    DiskL F' w' p { L with vs := fun i => if i = f then v' else L.vs i } { d with files := d.files.set f x' } u N := by
  have h0 := h.rest
  have hb0 := (h0.file f hf).box
  have hne : ∀ {t : TypeId} {k : Nat} {cs : Array Value}, Bk t w k cs → F k → t ≠ 70 → t ≠ 5 → w'.heap[k]? = w.heap[k]? := fun {t k cs} hb hfk h1 h2 => hk k hfk (hb.ne hb0 h1) fun hg => by
    obtain ⟨cs', hb'⟩ := ownBk (h0.file f hf).own hg
    exact (hb.ne hb' h2) rfl
  have hmap : ∀ {k n : Nat} {g : Int → Option Nat}, MapP w k n g → F k → w'.heap[k]? = w.heap[k]? := fun {k n g} hm hfk => hk k hfk (hb0.neMap hm).symm fun hg => by
    obtain ⟨cs', hb'⟩ := ownBk (h0.file f hf).own hg
    exact (hb'.neMap hm) rfl
  have hlen : (d.files.set f x').length = d.files.length := List.length_set ..
  refine ⟨h.head.keep (hne h.head h.fh (by decide) (by decide)), ?_, hF _ h.fh, hlt⟩
  refine ⟨h0.now.keep (hmap h0.now h0.fn), h0.kept.keep (hmap h0.kept h0.fk), ownsRow_keep h0.row fun g hg => ?_, h0.many, fun i c v h1 h2 => ?_, fun i hi => ?_, fun i j hi hj => ?_, fun i j hi hj hij => ?_, h0.nk, hF _ h0.fn, hF _ h0.fk, fun g hg => hF g (h0.fw g hg), fun i hi => hF _ (h0.fp i (by rw [← hlen]; exact hi)), fun i hi => ?_⟩
  · obtain ⟨cs', hb⟩ := ownBk h0.row hg
    exact hne hb (h0.fw g hg) (by decide) (by decide)
  · exact (h0.wait i c v h1 h2).keep hF (fun _ _ => rfl) fun k cs' hfk hb => by rcases hb with hb | hb <;> exact hne hb hfk (by decide) (by decide)
  · have hi' : i < d.files.length := by rw [← hlen]; exact hi
    show FileV w' (L.ps i) (if i = f then v' else L.vs i) (fl (d.files.set f x') i)
    by_cases e : i = f
    · rw [if_pos e, e, fl_set_same hf]
      exact hv
    · rw [if_neg e, fl_set_other (fun e' => e e'.symm)]
      refine (h0.file i hi').keep (hk _ (h0.fp i hi') (h0.psn i f hi' hf e) fun hg => ?_) fun g hg => hk g (h0.fv i hi' g hg) ?_ (fun hg' => h0.vsn i f hi' hf e g hg hg')
      · obtain ⟨cs', hb'⟩ := ownBk (h0.file f hf).own hg
        exact ((h0.file i hi').box.ne hb' (by decide)) rfl
      · obtain ⟨cs', hb'⟩ := ownBk (h0.file i hi').own hg
        exact hb'.ne hb0 (by decide)
  · rw [hlen] at hi hj
    exact h0.psn i j hi hj
  · rw [hlen] at hi hj
    have hold : ∀ i, i < d.files.length → i ≠ f → ∀ g, (L.vs i).ownBlock = some g → v'.ownBlock ≠ some g := fun i hi hif g hg hg' => by
      rcases hr with hr | hr
      · exact h0.vsn i f hi hf hif g hg (by rw [← hr]; exact hg')
      · have h1 := hr g hg'
        have h2 := h.lt g (h0.fv i hi g hg)
        omega
    show ∀ g, (if i = f then v' else L.vs i).ownBlock = some g → (if j = f then v' else L.vs j).ownBlock ≠ some g
    intro g
    by_cases e1 : i = f
    · rw [if_pos e1, if_neg (by rw [← e1]; exact Ne.symm hij)]
      exact fun hg hg' => hold j hj (by rw [← e1]; exact Ne.symm hij) g hg' hg
    · rw [if_neg e1]
      by_cases e2 : j = f
      · rw [if_pos e2]
        exact hold i hi e1 g
      · rw [if_neg e2]
        exact h0.vsn i j hi hj hij g
  · rw [hlen] at hi
    show ∀ g, (if i = f then v' else L.vs i).ownBlock = some g → F' g
    intro g
    by_cases e : i = f
    · rw [if_pos e]
      exact hF' g
    · rw [if_neg e]
      exact fun hg => hF g (h0.fv i hi g hg)

/-- Bounds of a disk: how many files and names, how long a file. -/
structure Bnd (d : Dk) (N T : Nat) : Prop where
  files : d.files.length ≤ N
  names : d.kept.length + d.waits.length ≤ N
  bytes : ∀ x ∈ d.files, x.b.length ≤ T

/-- A disk at p that is as d. -/
def Dsk (F : Nat → Prop) (w : World) (p : Nat) (d : Dk) (N T : Nat) : Prop :=
  ∃ L, DiskL F w p L d (usedD d) N ∧ OkD d ∧ Bnd d N T ∧ I64 d.room ∧ I64 d.power

theorem Dsk.only {F G : Nat → Prop} {w w' : World} {p : Nat} {d : Dk} {N T : Nat} (h : Dsk F w p d N T) (ho : Only G w w') (hFG : ∀ k, F k → ¬ G k) : Dsk F w' p d N T := by
  obtain ⟨L, h1, h2⟩ := h
  exact ⟨L, h1.only ho hFG, h2⟩

theorem Dsk.below {F : Nat → Prop} {w w' : World} {p : Nat} {d : Dk} {N T : Nat} (h : Dsk F w p d N T) (hb : Below w.heap.size w w') : Dsk F w' p d N T :=
  h.only (G := fun _ => False) (Only.ofBelow hb) (fun _ _ hf => hf)

end Go.Proofs.Ytfhgjnfichgdiaa
