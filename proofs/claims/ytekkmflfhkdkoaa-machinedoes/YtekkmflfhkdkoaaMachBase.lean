/- A machine of the landed text in memory: cells that processes share. -/
import Derived.Test.YtekkmflfhkdkoaaOnlyBase
import Derived.Test.YtekkmflfhkdkoaaMapInt
namespace Go.Proofs.Ytekkmflfhkdkoaa
open Go.RowKit Go.Maps

/-- A machine as plain data: how many processes, how many cells, what each cell has, how many accesses each process had. -/
structure Mc where
  procs : Int
  len : Nat
  c : Int → Int
  s : Int → Int

def newM (procs : Int) : Mc := ⟨procs, 0, fun _ => 0, fun _ => 0⟩

/-- Is it one of the first so many? -/
def inM (n count : Int) : Bool := decide (0 ≤ n ∧ n < count)

def stepM (M : Mc) (p : Int) : Int → Int := if inM p M.procs = true then putF M.s p (M.s p + 1) else M.s

/-- An access: g tells what the cell has behind it. -/
def accM (M : Mc) (p cell : Int) (g : Int → Int) : Mc :=
  { M with s := stepM M p, c := if inM cell M.len = true then putF M.c cell (g (M.c cell)) else M.c }

def cellsM (M : Mc) (n : Int) : Mc := if 1 ≤ n ∧ n ≤ 1048576 then { M with len := M.len + n.toNat } else M

/-- What may be: N bounds how many accesses there were. -/
structure OkM (M : Mc) (N : Nat) : Prop where
  procs : I64 M.procs
  len : M.len ≤ 1000000000000000
  c : ∀ q, I64 (M.c q)
  c0 : ∀ q, inM q M.len = false → M.c q = 0
  s : ∀ p, 0 ≤ M.s p ∧ M.s p ≤ N
  s0 : ∀ p, inM p M.procs = false → M.s p = 0

theorem OkM.new {procs : Int} (h : I64 procs) : OkM (newM procs) 0 := ⟨h, Nat.zero_le _, fun _ => (⟨by decide, by decide⟩ : I64 0), fun _ _ => rfl, fun _ => ⟨Int.le_refl _, Int.le_refl _⟩, fun _ _ => rfl⟩

theorem OkM.mono {M : Mc} {N N' : Nat} (h : OkM M N) (hN : N ≤ N') : OkM M N' := ⟨h.procs, h.len, h.c, h.c0, fun p => ⟨(h.s p).1, by have := (h.s p).2; omega⟩, h.s0⟩

theorem putF_same (f : Int → Int) (p x : Int) : putF f p x p = x := if_pos rfl

theorem putF_other (f : Int → Int) {p q : Int} (x : Int) (h : p ≠ q) : putF f p x q = f q := if_neg h

theorem putF_self (f : Int → Int) (p : Int) : putF f p (f p) = f := by
  funext q
  unfold putF
  by_cases e : p = q
  · rw [if_pos e, e]
  · rw [if_neg e]

theorem OkM.step {M : Mc} {N : Nat} (h : OkM M N) (p : Int) : OkM { M with s := stepM M p } (N + 1) := by
  refine ⟨h.procs, h.len, h.c, h.c0, fun q => ?_, fun q hq => ?_⟩
  · have h1 := h.s p
    have h2 := h.s q
    show 0 ≤ stepM M p q ∧ stepM M p q ≤ _
    unfold stepM putF
    split
    · dsimp only
      split <;> omega
    · omega
  · show stepM M p q = 0
    unfold stepM putF
    split
    · rename_i hp
      dsimp only
      split
      · rename_i e
        rw [e] at hp
        exact absurd (hp.symm.trans hq) (by decide)
      · exact h.s0 q hq
    · exact h.s0 q hq

theorem OkM.acc {M : Mc} {N : Nat} (h : OkM M N) (p cell : Int) (g : Int → Int) (hg : inM cell M.len = true → I64 (g (M.c cell))) : OkM (accM M p cell g) (N + 1) := by
  have h' := h.step p
  refine ⟨h'.procs, h'.len, fun q => ?_, fun q hq => ?_, h'.s, h'.s0⟩
  · show I64 ((if inM cell M.len = true then putF M.c cell (g (M.c cell)) else M.c) q)
    split
    · rename_i hc
      unfold putF
      split
      · exact hg hc
      · exact h.c q
    · exact h.c q
  · show (if inM cell M.len = true then putF M.c cell (g (M.c cell)) else M.c) q = 0
    split
    · rename_i hc
      unfold putF
      split
      · rename_i e
        rw [e] at hc
        exact absurd (hc.symm.trans hq) (by decide)
      · exact h.c0 q hq
    · exact h.c0 q hq

theorem OkM.cells {M : Mc} {N : Nat} (h : OkM M N) (n : Int) (hn : M.len + n.toNat ≤ 1000000000000000) : OkM (cellsM M n) N := by
  unfold cellsM
  split
  · refine ⟨h.procs, hn, h.c, fun q hq => h.c0 q ?_, h.s, h.s0⟩
    unfold inM at *
    simp only [decide_eq_false_iff_not] at *
    omega
  · exact h

/-- A machine's head. -/
def headM (mc ms : Nat) (M : Mc) : Array Value := #[.int .i64 M.procs, .int .i64 (M.len : Int), .map (some mc), .map (some ms)]

/-- A machine at p, whose maps lie in the blocks mc, ms. -/
structure MacL (w : World) (p mc ms : Nat) (M : Mc) (N : Nat) : Prop where
  head : Bk 45 w p (headM mc ms M)
  cells : MapI w mc N M.c
  steps : MapI w ms N M.s
  ne : mc ≠ ms
  ok : OkM M N

/-- A machine no block of which is in K. -/
def Mac (K : Nat → Prop) (w : World) (p : Nat) (M : Mc) (N : Nat) : Prop := ∃ mc ms, MacL w p mc ms M N ∧ ¬ K p ∧ ¬ K mc ∧ ¬ K ms

theorem MacL.keep {w w' : World} {p mc ms : Nat} {M : Mc} {N : Nat} (h : MacL w p mc ms M N) (h1 : w'.heap[p]? = w.heap[p]?) (h2 : w'.heap[mc]? = w.heap[mc]?) (h3 : w'.heap[ms]? = w.heap[ms]?) : MacL w' p mc ms M N :=
  ⟨h.head.keep h1, h.cells.keep h2, h.steps.keep h3, h.ne, h.ok⟩

/-- What changes but blocks of K leaves it. -/
theorem Mac.only {K G : Nat → Prop} {w w' : World} {p : Nat} {M : Mc} {N : Nat} (h : Mac K w p M N) (ho : Only G w w') (hG : ∀ k, k < w.heap.size → G k → K k) : Mac K w' p M N := by
  obtain ⟨mc, ms, h, k1, k2, k3⟩ := h
  exact ⟨mc, ms, h.keep (ho.block _ h.head.lt fun g => k1 (hG _ h.head.lt g)) (ho.block _ h.cells.lt fun g => k2 (hG _ h.cells.lt g)) (ho.block _ h.steps.lt fun g => k3 (hG _ h.steps.lt g)), k1, k2, k3⟩

theorem Mac.ok {K : Nat → Prop} {w : World} {p : Nat} {M : Mc} {N : Nat} (h : Mac K w p M N) : OkM M N := by
  obtain ⟨mc, ms, h, _⟩ := h
  exact h.ok

theorem MacL.mono {w : World} {p mc ms : Nat} {M : Mc} {N N' : Nat} (h : MacL w p mc ms M N) (hN : N ≤ N') : MacL w p mc ms M N' :=
  ⟨h.head, h.cells.mono hN, h.steps.mono hN, h.ne, h.ok.mono hN⟩

theorem Mac.mono {K : Nat → Prop} {w : World} {p : Nat} {M : Mc} {N N' : Nat} (h : Mac K w p M N) (hN : N ≤ N') : Mac K w p M N' := by
  obtain ⟨mc, ms, h, k⟩ := h
  exact ⟨mc, ms, ⟨h.head, h.cells.mono hN, h.steps.mono hN, h.ne, h.ok.mono hN⟩, k⟩

theorem Mac.weaken {K K' : Nat → Prop} {w : World} {p : Nat} {M : Mc} {N : Nat} (h : Mac K w p M N) (hK : ∀ k, k < w.heap.size → K' k → K k) : Mac K' w p M N := by
  obtain ⟨mc, ms, h, k1, k2, k3⟩ := h
  exact ⟨mc, ms, h, fun g => k1 (hK _ h.head.lt g), fun g => k2 (hK _ h.cells.lt g), fun g => k3 (hK _ h.steps.lt g)⟩

/-- All that lies not yet may be put into K. -/
theorem Mac.fresh {K : Nat → Prop} {w : World} {p : Nat} {M : Mc} {N : Nat} (h : Mac K w p M N) (B : Nat) (hB : w.heap.size ≤ B) : Mac (fun k => K k ∨ B ≤ k) w p M N :=
  h.weaken fun k hk h => h.elim id fun h => absurd hk (by omega)

theorem Mac.below {K : Nat → Prop} {w w' : World} {p : Nat} {M : Mc} {N : Nat} (h : Mac K w p M N) (hb : Below w.heap.size w w') : Mac K w' p M N :=
  h.only (G := fun _ => False) (Only.ofBelow hb) fun _ _ g => g.elim

theorem Mac.drewN {K : Nat → Prop} {w : World} {p : Nat} {M : Mc} {N : Nat} (h : Mac K w p M N) (n : Nat) : Mac K (w.drewN n) p M N := h.below (below_drewN (Below.refl _ _) n)

end Go.Proofs.Ytekkmflfhkdkoaa
