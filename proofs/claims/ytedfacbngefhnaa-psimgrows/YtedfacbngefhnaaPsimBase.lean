/- The engine that copies, of the landed text, in memory. -/
import Derived.Test.YtedfacbngefhnaaPack3
import Derived.Test.YtedfacbngefhnaaBlockBase
import Derived.Test.YtedfacbngefhnaaPack1
import Derived.Laws.OwnMore
namespace Go.Proofs.Ytedfacbngefhnaa
open Go.RowKit Go.Maps

/-! ### Rows of elements that a function tells -/

def cellsF (c : Nat → List Value) : Nat → Nat → List Value
  | _, 0 => []
  | i, n + 1 => c i ++ cellsF c (i + 1) n

theorem cellsF_length {c : Nat → List Value} {s : Nat} (hs : ∀ i, (c i).length = s) : ∀ i n, (cellsF c i n).length = n * s
  | _, 0 => by simp [cellsF]
  | i, n + 1 => by rw [cellsF, List.length_append, cellsF_length hs (i + 1) n, hs, Nat.succ_mul, Nat.add_comm]

theorem cellsF_get {c : Nat → List Value} {s : Nat} (hs : ∀ i, (c i).length = s) : ∀ i n j k, j < n → k < s → (cellsF c i n)[j * s + k]? = (c (i + j))[k]?
  | i, n + 1, 0, k, _, hk => by
    rw [cellsF, Nat.zero_mul, Nat.zero_add, List.getElem?_append_left (by rw [hs]; exact hk)]
    rfl
  | i, n + 1, j + 1, k, hj, hk => by
    have e : (j + 1) * s + k = (c i).length + (j * s + k) := by rw [hs, Nat.succ_mul]; omega
    rw [cellsF, e, List.getElem?_append_right (Nat.le_add_right _ _), Nat.add_sub_cancel_left, cellsF_get hs (i + 1) n j k (by omega) hk]
    have e2 : i + 1 + j = i + (j + 1) := by omega
    rw [e2]

theorem cellsF_congr {c d : Nat → List Value} : ∀ i n, (∀ m, i ≤ m → c m = d m) → cellsF c i n = cellsF d i n
  | _, 0, _ => rfl
  | i, n + 1, h => by rw [cellsF, cellsF, h i (Nat.le_refl _), cellsF_congr (i + 1) n fun m hm => h m (by omega)]

theorem cellsF_set {c : Nat → List Value} {s : Nat} (hs : ∀ i, (c i).length = s) (v : Value) : ∀ i n j k, j < n → k < s → (cellsF c i n).set (j * s + k) v = cellsF (fun m => if m = i + j then (c m).set k v else c m) i n
  | i, n + 1, 0, k, _, hk => by
    rw [cellsF, cellsF, Nat.zero_mul, Nat.zero_add, List.set_append_left _ _ (by rw [hs]; exact hk), if_pos (Nat.add_zero i).symm]
    congr 1
    exact cellsF_congr _ _ fun m hm => by rw [if_neg (by omega)]
  | i, n + 1, j + 1, k, hj, hk => by
    have e : (j + 1) * s + k = (c i).length + (j * s + k) := by rw [hs, Nat.succ_mul]; omega
    rw [cellsF, cellsF, e, List.set_append_right _ _ (by omega), Nat.add_sub_cancel_left, cellsF_set hs v (i + 1) n j k (by omega) hk, if_neg (by omega)]
    have e2 : i + 1 + j = i + (j + 1) := by omega
    rw [e2]

def anL (v : An) : List Value := [.int .i64 (v.seq : Int), .int .i64 v.resp]

def opL (o : Opn) : List Value := [.int .i64 o.code, .int .i64 o.a, .int .i64 o.b]

def anC (f : Nat → An) (n : Nat) : List Value := cellsF (fun i => anL (f i)) 0 n

def opC (f : Nat → Opn) (n : Nat) : List Value := cellsF (fun i => opL (f i)) 0 n

theorem anC_get (f : Nat → An) {n j : Nat} (hj : j < n) : (anC f n)[j * 2 + 0]? = some (.int .i64 ((f j).seq : Int)) ∧ (anC f n)[j * 2 + 1]? = some (.int .i64 (f j).resp) := by
  unfold anC
  rw [cellsF_get (s := 2) (fun _ => rfl) 0 n j 0 hj (by omega), cellsF_get (s := 2) (fun _ => rfl) 0 n j 1 hj (by omega), Nat.zero_add]
  exact ⟨rfl, rfl⟩

theorem anC_set (f : Nat → An) {n j : Nat} (hj : j < n) (s : Nat) (r : Int) : ((anC f n).set (j * 2 + 0) (.int .i64 (s : Int))).set (j * 2 + 1) (.int .i64 r) = anC (putN f j ⟨s, r⟩) n := by
  unfold anC
  rw [cellsF_set (s := 2) (fun _ => rfl) _ 0 n j 0 hj (by omega), cellsF_set (s := 2) (fun i => by split <;> rfl) _ 0 n j 1 hj (by omega), Nat.zero_add]
  refine cellsF_congr _ _ fun m _ => ?_
  by_cases a : m = j
  · rw [if_pos a, if_pos a, a, putN_same]
    rfl
  · rw [if_neg a, if_neg a, putN_other _ _ a]

theorem opC_get (f : Nat → Opn) {n j : Nat} (hj : j < n) : (opC f n)[j * 3 + 0]? = some (.int .i64 (f j).code) ∧ (opC f n)[j * 3 + 1]? = some (.int .i64 (f j).a) ∧ (opC f n)[j * 3 + 2]? = some (.int .i64 (f j).b) := by
  unfold opC
  rw [cellsF_get (s := 3) (fun _ => rfl) 0 n j 0 hj (by omega), cellsF_get (s := 3) (fun _ => rfl) 0 n j 1 hj (by omega), cellsF_get (s := 3) (fun _ => rfl) 0 n j 2 hj (by omega), Nat.zero_add]
  exact ⟨rfl, rfl, rfl⟩

theorem opC_set (f : Nat → Opn) {n j : Nat} (hj : j < n) (o : Opn) : (((opC f n).set (j * 3 + 0) (.int .i64 o.code)).set (j * 3 + 1) (.int .i64 o.a)).set (j * 3 + 2) (.int .i64 o.b) = opC (putN f j o) n := by
  unfold opC
  rw [cellsF_set (s := 3) (fun _ => rfl) _ 0 n j 0 hj (by omega), cellsF_set (s := 3) (fun i => by split <;> rfl) _ 0 n j 1 hj (by omega), cellsF_set (s := 3) (fun i => by split <;> (try split) <;> rfl) _ 0 n j 2 hj (by omega), Nat.zero_add]
  refine cellsF_congr _ _ fun m _ => ?_
  by_cases a : m = j
  · rw [if_pos a, if_pos a, if_pos a, a, putN_same]
    rfl
  · rw [if_neg a, if_neg a, if_neg a, putN_other _ _ a]

/-- The function that is a process's next step. -/
def fnOf : Nx → Nat
  | .rest => 0
  | .announce => 38
  | .copy => 43
  | .readAnn => 49
  | .swapIn => 54

/-- A process's next step, as a value. -/
def nxV (q : Nat) (x : Nx) : Value := if x = .rest then .nilFunc else .func (.func (fnOf x)) #[ptr q] #[]

def pcC (l p : Nat) (x mv av fv : Value) (q : Pc) : Array Value :=
  #[.int .i64 (p : Int), ptr l, x, .int .i64 (q.began : Int), .int .i64 (q.seq : Int), .int .i64 q.op.code, .int .i64 q.op.a, .int .i64 q.op.b, .int .i64 q.resp, .int .i64 (q.frm : Int), .int .i64 q.mst.kind, mv, .bool q.mst.shut, .int .i64 q.mst.eng, av, fv, .int .i64 (q.asked : Int)]

def lsC (n m : Nat) (sv av fv ov lv : Value) (s : St) : Array Value :=
  #[.int .i64 (n : Int), ptr m, .int .i64 0, .int .i64 1, .int .i64 s.kind, sv, .bool s.shut, .int .i64 s.eng, av, fv, ov, lv]

def ptrsC (qs : Nat → Nat) (n : Nat) : List Value := (List.range n).map fun i => ptr (qs i)

theorem ptrsC_get (qs : Nat → Nat) (n i : Nat) (hi : i < n) : (ptrsC qs n)[i]? = some (ptr (qs i)) := by
  unfold ptrsC
  simp [hi]

theorem ptrsC_length (qs : Nat → Nat) (n : Nat) : (ptrsC qs n).length = n := by simp [ptrsC]

/-- Where an engine lies: cp tells who has a copy, S which blocks have the numbers of states. -/
structure HL where
  l : Nat
  m : Nat
  mc : Nat
  ms : Nat
  qs : Nat → Nat
  pv : Value
  ov : Value
  lv : Value
  av : Value
  fa : Option Addr
  fn : Nat
  fc : Nat
  sv : Value
  mv : Nat → Value
  ma : Nat → Value
  mf : Nat → Value
  cp : Nat → Prop
  S : Nat → Prop

def HL.fv (L : HL) : Value := .slice L.fa L.fn L.fc

/-- Its blocks, by what they have. -/
def Kd (eb : Nat) (L : HL) (n : Nat) : Nat → Nat → Prop
  | 0, k => k = eb
  | 1, k => k = L.l
  | 2, k => k = L.m
  | 3, k => k = L.mc
  | 4, k => k = L.ms
  | 5, k => ∃ p, p < n ∧ k = L.qs p
  | 6, k => L.pv.ownBlock = some k
  | 7, k => L.ov.ownBlock = some k
  | 8, k => L.lv.ownBlock = some k ∨ ∃ p, p < n ∧ L.cp p ∧ (L.mf p).ownBlock = some k
  | 9, k => L.av.ownBlock = some k ∨ ∃ p, p < n ∧ L.cp p ∧ (L.ma p).ownBlock = some k
  | _, _ => False

def HasE (eb : Nat) (L : HL) (n : Nat) (k : Nat) : Prop := ∃ t, Kd eb L n t k

/-- What the machine has of it. -/
structure HRel (e : Eg) (M : Mc) : Prop where
  procs : M.procs = e.n
  len : M.len = e.n + 1
  cnt : M.c 0 = e.count
  ann : ∀ p, p < e.n → M.c (1 + (p : Int)) = e.ann p
  s : ∀ p, p < e.n → M.s (p : Int) = (e.ps p).did

/-- A process's copy. -/
structure CopL (w : World) (L : HL) (n p : Nat) (q : Pc) : Prop where
  last : w.ownsRow 0 91 2 (L.ma p) n (anC q.mlast n)
  fresh : OwnR w 0 (L.mf p) q.fresh
  st : RdI w (L.mv p) q.mst.L
  stn : q.mst.L = [] ∨ ∀ g, (L.mv p).ownBlock = some g → L.S g
  sepA : ∀ g, (L.ma p).ownBlock = some g → L.av.ownBlock ≠ some g ∧ ∀ r, r < n → r ≠ p → L.cp r → (L.ma r).ownBlock ≠ some g
  sepF : ∀ g, (L.mf p).ownBlock = some g → L.lv.ownBlock ≠ some g ∧ ∀ r, r < n → r ≠ p → L.cp r → (L.mf r).ownBlock ≠ some g

structure EgL (w : World) (eb : Nat) (L : HL) (x : Nat → Value) (e : Eg) (M : Mc) (N : Nat) : Prop where
  head : Bk 63 w eb #[ptr L.l, L.pv]
  procs : w.ownsRow 0 64 1 L.pv e.n (ptrsC L.qs e.n)
  list : Bk 76 w L.l (lsC e.n L.m L.sv L.av L.fv L.ov L.lv e.st)
  ops : w.ownsRow 0 26 3 L.ov e.n (opC e.ops e.n)
  last : w.ownsRow 0 91 2 L.av e.n (anC e.last e.n)
  log : OwnR w 0 L.lv e.log
  st : RdI w L.sv e.st.L
  mac : MacL w L.m L.mc L.ms M N
  pr : ∀ p, p < e.n → Bk 71 w (L.qs p) (pcC L.l p (x p) (L.mv p) (L.ma p) (L.mf p) (e.ps p))
  inj : ∀ p q, p < e.n → q < e.n → L.qs p = L.qs q → p = q
  stn : e.st.L = [] ∨ ∀ g, L.sv.ownBlock = some g → L.S g
  cop : ∀ p, p < e.n → L.cp p → CopL w L e.n p (e.ps p)
  sz : ∀ k, L.S k → k < w.heap.size
  hS : ∀ k, HasE eb L e.n k → ¬ L.S k
  rel : HRel e M

/-- Within which bounds all of it is. -/
structure FitE (e : Eg) (N : Nat) : Prop where
  n : e.n ≤ 64
  log : e.log.length ≤ 64 * N
  seq : ∀ p, p < e.n → (e.ps p).seq ≤ N
  recs : ∀ r ∈ e.log, RecOk r
  resp : ∀ p, p < e.n → I64 (e.ps p).resp
  ops : ∀ p, p < e.n → OpOk (e.ops p) ∧ OpOk (e.ps p).op
  last : ∀ a, a < e.n → I64 (e.last a).resp
  fresh : ∀ p, p < e.n → ∀ r ∈ (e.ps p).fresh, RecOk r
  mlast : ∀ p, p < e.n → ∀ a, a < e.n → I64 ((e.ps p).mlast a).resp

theorem row_bk {w : World} {base n s : Nat} {t : TypeId} {v : Value} {xs : List Value} (h : w.ownsRow base t s v n xs) {g : Nat} (hg : v.ownBlock = some g) : ∃ cs, Bk t w g cs := by
  rcases h.2 with ⟨hv, _⟩ | ⟨g', cap, cur, hv, _, hb, _⟩
  · rw [hv] at hg; cases hg
  · rw [hv] at hg
    obtain rfl : g' = g := by simpa [Value.ownBlock] using hg
    exact ⟨_, hb⟩

theorem row_form {w : World} {base n s : Nat} {t : TypeId} {v : Value} {xs : List Value} (h : w.ownsRow base t s v n xs) : ∃ a c, v = .slice a n c := by
  rcases h.2 with ⟨hv, hn⟩ | ⟨g', cap, cur, hv, _⟩
  · exact ⟨_, _, by rw [hv, hn]⟩
  · exact ⟨_, _, hv⟩

theorem row_at {w : World} {n s : Nat} {t : TypeId} {v : Value} {xs : List Value} (h : w.ownsRow 0 t s v n xs) (hn : 0 < n) : ∃ g c, v = .slice (some ⟨g, 0, none⟩) n c ∧ ∀ (j : Nat) (u : Value), xs[j]? = some u → w.cell? ⟨g, j, none⟩ = some u := by
  rcases h.2 with ⟨hv, h0⟩ | ⟨g, cap, cur, hv, _⟩
  · omega
  · refine ⟨g, cap, hv, fun j u hu => ?_⟩
    have := World.ownsRow.cells h (g := g) (by rw [hv]; rfl) j u hu
    rw [Addr.add_lit, Nat.zero_add] at this
    exact this

/-- Each kind of block has cells of its own type. -/
def tyE : Nat → TypeId
  | 0 => 63
  | 1 => 76
  | 2 => 85
  | 5 => 71
  | 6 => 64
  | 7 => 26
  | 8 => 53
  | _ => 91

theorem EgL.bk {w : World} {eb : Nat} {L : HL} {x : Nat → Value} {e : Eg} {M : Mc} {N : Nat} (h : EgL w eb L x e M N) {t k : Nat} (hk : Kd eb L e.n t k) (h3 : t ≠ 3) (h4 : t ≠ 4) : ∃ cs, Bk (tyE t) w k cs := by
  match t, hk, h3, h4 with
  | 0, hk, _, _ => exact ⟨_, by rw [show k = eb from hk]; exact h.head⟩
  | 1, hk, _, _ => exact ⟨_, by rw [show k = L.l from hk]; exact h.list⟩
  | 2, hk, _, _ => exact ⟨_, by rw [show k = L.m from hk]; exact h.mac.head⟩
  | 3, _, h3, _ => exact absurd rfl h3
  | 4, _, _, h4 => exact absurd rfl h4
  | 5, hk, _, _ => obtain ⟨p, hp, rfl⟩ := hk; exact ⟨_, h.pr p hp⟩
  | 6, hk, _, _ => exact row_bk h.procs hk
  | 7, hk, _, _ => exact row_bk h.ops hk
  | 8, hk, _, _ =>
    rcases hk with hk | ⟨p, hp, hc, hk⟩
    · exact row_bk h.log hk
    · exact row_bk (h.cop p hp hc).fresh hk
  | 9, hk, _, _ =>
    rcases hk with hk | ⟨p, hp, hc, hk⟩
    · exact row_bk h.last hk
    · exact row_bk (h.cop p hp hc).last hk
  | _ + 10, hk, _, _ => exact hk.elim

theorem EgL.lt {w : World} {eb : Nat} {L : HL} {x : Nat → Value} {e : Eg} {M : Mc} {N : Nat} (h : EgL w eb L x e M N) {k : Nat} (hk : HasE eb L e.n k) : k < w.heap.size := by
  obtain ⟨t, hk⟩ := hk
  by_cases h3 : t = 3
  · subst h3
    rw [show k = L.mc from hk]
    exact h.mac.cells.lt
  · by_cases h4 : t = 4
    · subst h4
      rw [show k = L.ms from hk]
      exact h.mac.steps.lt
    · obtain ⟨cs, hb⟩ := h.bk hk h3 h4
      exact hb.lt

theorem tyE_inj : ∀ s t : Fin 10, s.val ≠ 3 → s.val ≠ 4 → t.val ≠ 3 → t.val ≠ 4 → tyE s.val = tyE t.val → s.val = t.val := by decide

theorem Kd.lt {eb : Nat} {L : HL} {n t k : Nat} (h : Kd eb L n t k) : t < 10 := by
  rcases Nat.lt_or_ge t 10 with a | a
  · exact a
  · obtain ⟨s, rfl⟩ : ∃ s, t = s + 10 := ⟨t - 10, by omega⟩
    exact h.elim

/-- No block is of two kinds. -/
theorem EgL.kd {w : World} {eb : Nat} {L : HL} {x : Nat → Value} {e : Eg} {M : Mc} {N : Nat} (h : EgL w eb L x e M N) {s t k : Nat} (hs : Kd eb L e.n s k) (ht : Kd eb L e.n t k) : s = t := by
  have nomap : ∀ {u : Nat}, Kd eb L e.n u k → u ≠ 3 → u ≠ 4 → k ≠ L.mc ∧ k ≠ L.ms := fun hu h3 h4 => by
    obtain ⟨cs, hb⟩ := h.bk hu h3 h4
    exact ⟨h.mac.cells.apart hb, h.mac.steps.apart hb⟩
  by_cases s3 : s = 3
  · subst s3
    have e1 : k = L.mc := hs
    by_cases t3 : t = 3
    · exact t3.symm
    · by_cases t4 : t = 4
      · subst t4
        exact absurd (e1.symm.trans ht) h.mac.ne
      · exact absurd e1 (nomap ht t3 t4).1
  · by_cases s4 : s = 4
    · subst s4
      have e1 : k = L.ms := hs
      by_cases t3 : t = 3
      · subst t3
        have e2 : k = L.mc := ht
        exact absurd (e2.symm.trans e1) h.mac.ne
      · by_cases t4 : t = 4
        · exact t4.symm
        · exact absurd e1 (nomap ht t3 t4).2
    · by_cases t3 : t = 3
      · subst t3
        exact absurd ht (nomap hs s3 s4).1
      · by_cases t4 : t = 4
        · subst t4
          exact absurd ht (nomap hs s3 s4).2
        · obtain ⟨cs, h1⟩ := h.bk hs s3 s4
          obtain ⟨ds, h2⟩ := h.bk ht t3 t4
          refine tyE_inj ⟨s, hs.lt⟩ ⟨t, ht.lt⟩ s3 s4 t3 t4 ?_
          unfold Bk at h1 h2
          rw [h1] at h2
          simp only [Option.some.injEq, Obj.cells.injEq] at h2
          exact h2.2.1

/-- What stays, where only blocks of some kinds are changed. -/
structure Kept (T : Nat → Prop) (W : World) (eb : Nat) (L : HL) (x : Nat → Value) (e : Eg) (M : Mc) (N : Nat) : Prop where
  head : ¬ T 0 → Bk 63 W eb #[ptr L.l, L.pv]
  procs : ¬ T 6 → W.ownsRow 0 64 1 L.pv e.n (ptrsC L.qs e.n)
  list : ¬ T 1 → Bk 76 W L.l (lsC e.n L.m L.sv L.av L.fv L.ov L.lv e.st)
  ops : ¬ T 7 → W.ownsRow 0 26 3 L.ov e.n (opC e.ops e.n)
  last : ¬ T 9 → W.ownsRow 0 91 2 L.av e.n (anC e.last e.n)
  log : ¬ T 8 → OwnR W 0 L.lv e.log
  st : RdI W L.sv e.st.L
  mac : ¬ T 2 → ¬ T 3 → ¬ T 4 → MacL W L.m L.mc L.ms M N
  pr : ¬ T 5 → ∀ p, p < e.n → Bk 71 W (L.qs p) (pcC L.l p (x p) (L.mv p) (L.ma p) (L.mf p) (e.ps p))
  clast : ¬ T 9 → ∀ p, p < e.n → L.cp p → W.ownsRow 0 91 2 (L.ma p) e.n (anC (e.ps p).mlast e.n)
  cfresh : ¬ T 8 → ∀ p, p < e.n → L.cp p → OwnR W 0 (L.mf p) (e.ps p).fresh
  cst : ∀ p, p < e.n → L.cp p → RdI W (L.mv p) (e.ps p).mst.L

theorem EgL.keeps {w W : World} {eb : Nat} {L : HL} {x : Nat → Value} {e : Eg} {M : Mc} {N : Nat} (h : EgL w eb L x e M N) {G T : Nat → Prop} (ho : Only G w W) (hG : ∀ k, G k → (∃ t, T t ∧ Kd eb L e.n t k) ∨ (¬ HasE eb L e.n k ∧ ¬ L.S k)) : Kept T W eb L x e M N := by
  have blk : ∀ {s k : Nat}, Kd eb L e.n s k → ¬ T s → W.heap[k]? = w.heap[k]? := fun {s k} hk hs => by
    refine ho.block k (h.lt ⟨_, hk⟩) fun g => ?_
    rcases hG k g with ⟨t, ht, hk2⟩ | a
    · have := h.kd hk hk2
      subst this
      exact hs ht
    · exact a.1 ⟨_, hk⟩
  have num : ∀ {v : Value} {l : List Int}, RdI w v l → (l = [] ∨ ∀ g, v.ownBlock = some g → L.S g) → RdI W v l := fun hr hn =>
    hr.onlyE ho (hn.imp id fun hn g hg a => by
      rcases hG g a with ⟨t, ht, hk2⟩ | a
      · exact h.hS g ⟨t, hk2⟩ (hn g hg)
      · exact a.2 (hn g hg))
  refine ⟨fun a => h.head.keep (blk (s := 0) rfl a), fun a => ownsRow_keep h.procs fun g hg => blk (s := 6) hg a, fun a => h.list.keep (blk (s := 1) rfl a), fun a => ownsRow_keep h.ops fun g hg => blk (s := 7) hg a,
    fun a => ownsRow_keep h.last fun g hg => blk (s := 9) (.inl hg) a, fun a => ownsRow_keep h.log fun g hg => blk (s := 8) (.inl hg) a, num h.st h.stn, fun a b c => h.mac.keep (blk (s := 2) rfl a) (blk (s := 3) rfl b) (blk (s := 4) rfl c),
    fun a p hp => (h.pr p hp).keep (blk (s := 5) ⟨p, hp, rfl⟩ a), fun a p hp hc => ownsRow_keep (h.cop p hp hc).last fun g hg => blk (s := 9) (.inr ⟨p, hp, hc, hg⟩) a, fun a p hp hc => ownsRow_keep (h.cop p hp hc).fresh fun g hg => blk (s := 8) (.inr ⟨p, hp, hc, hg⟩) a, fun p hp hc => num (h.cop p hp hc).st (h.cop p hp hc).stn⟩

/-- What changes none of its blocks leaves it. -/
theorem EgL.only {w w' : World} {eb : Nat} {L : HL} {x : Nat → Value} {e : Eg} {M : Mc} {N : Nat} (h : EgL w eb L x e M N) {G : Nat → Prop} (ho : Only G w w') (hG : ∀ k, HasE eb L e.n k → ¬ G k) (hs : ∀ k, L.S k → ¬ G k) : EgL w' eb L x e M N := by
  have K := h.keeps (T := fun _ => False) ho fun k g => .inr ⟨fun a => hG k a g, fun a => hs k a g⟩
  exact ⟨K.head id, K.procs id, K.list id, K.ops id, K.last id, K.log id, K.st, K.mac id id id, K.pr id, h.inj, h.stn, fun p hp hc => ⟨K.clast id p hp hc, K.cfresh id p hp hc, K.cst p hp hc, (h.cop p hp hc).stn, (h.cop p hp hc).sepA, (h.cop p hp hc).sepF⟩, fun k hk => Nat.lt_of_lt_of_le (h.sz k hk) ho.size, h.hS, h.rel⟩

theorem EgL.below {w w' : World} {eb : Nat} {L : HL} {x : Nat → Value} {e : Eg} {M : Mc} {N : Nat} (h : EgL w eb L x e M N) (hb : Below w.heap.size w w') : EgL w' eb L x e M N :=
  h.only (G := fun _ => False) (Only.ofBelow hb) (fun _ _ g => g) (fun _ _ g => g)

/-- The machine has gone on. -/
theorem EgL.macd {w W : World} {eb : Nat} {L : HL} {x : Nat → Value} {e e' : Eg} {M M' : Mc} {N N' : Nat} (h : EgL w eb L x e M N) (ho : Only (fun k => k = L.mc ∨ k = L.ms) w W) (hm : MacL W L.m L.mc L.ms M' N')
    (h1 : e'.n = e.n) (h2 : e'.ops = e.ops) (h3 : e'.log = e.log) (h4 : e'.st = e.st) (h5 : e'.last = e.last) (hp : ∀ p, p < e.n → (∀ y mv av fv, pcC L.l p y mv av fv (e'.ps p) = pcC L.l p y mv av fv (e.ps p)) ∧ (e'.ps p).mlast = (e.ps p).mlast ∧ (e'.ps p).fresh = (e.ps p).fresh ∧ (e'.ps p).mst = (e.ps p).mst)
    (hr : HRel e' M') : EgL W eb L x e' M' N' := by
  have K := h.keeps (T := fun t => t = 3 ∨ t = 4) ho fun k g => .inl (g.elim (fun g => ⟨3, .inl rfl, g⟩) fun g => ⟨4, .inr rfl, g⟩)
  refine ⟨K.head (by decide), by rw [h1]; exact K.procs (by decide), by rw [h1, h4]; exact K.list (by decide), by rw [h1, h2]; exact K.ops (by decide), by rw [h1, h5]; exact K.last (by decide), by rw [h3]; exact K.log (by decide), by rw [h4]; exact K.st, hm, fun p hp' => ?_, by rw [h1]; exact h.inj, by rw [h4]; exact h.stn, fun p hp' hc => ?_, fun k hk => Nat.lt_of_lt_of_le (h.sz k hk) ho.size, by rw [h1]; exact h.hS, hr⟩
  · rw [h1] at hp'
    rw [(hp p hp').1]
    exact K.pr (by decide) p hp'
  · rw [h1] at hp' ⊢
    obtain ⟨a1, a2, a3, a4⟩ := hp p hp'
    have C := h.cop p hp' hc
    exact ⟨by rw [a2]; exact K.clast (by decide) p hp' hc, by rw [a3]; exact K.cfresh (by decide) p hp' hc, by rw [a4]; exact K.cst p hp' hc, by rw [a4]; exact C.stn, C.sepA, C.sepF⟩

/-- A process's own cells have changed. -/
theorem EgL.procd {w W : World} {eb : Nat} {L : HL} {x x' : Nat → Value} {e : Eg} {M : Mc} {N p : Nat} {q' : Pc} (h : EgL w eb L x e M N) (hp : p < e.n) {G : Nat → Prop} (ho : Only G w W) (hG : ∀ k, G k → k = L.qs p ∨ (¬ HasE eb L e.n k ∧ ¬ L.S k)) {mv' ma' mf' : Nat → Value}
    (hq : Bk 71 W (L.qs p) (pcC L.l p (x' p) (mv' p) (ma' p) (mf' p) q')) (hx : ∀ r, r ≠ p → x' r = x r) (hm : ∀ r, r ≠ p → mv' r = L.mv r ∧ ma' r = L.ma r ∧ mf' r = L.mf r) (hd : q'.did = (e.ps p).did)
    (hc : L.cp p → mv' p = L.mv p ∧ ma' p = L.ma p ∧ mf' p = L.mf p ∧ q'.mlast = (e.ps p).mlast ∧ q'.fresh = (e.ps p).fresh ∧ q'.mst = (e.ps p).mst) :
    EgL W eb { L with mv := mv', ma := ma', mf := mf' } x' { e with ps := putN e.ps p q' } M N := by
  have K := h.keeps (T := fun t => t = 5) ho fun k g => (hG k g).imp (fun g => ⟨5, rfl, p, hp, g⟩) id
  have hv : ∀ r, L.cp r → mv' r = L.mv r ∧ ma' r = L.ma r ∧ mf' r = L.mf r := fun r hr => by
    by_cases a : r = p
    · subst a
      have := hc hr
      exact ⟨this.1, this.2.1, this.2.2.1⟩
    · exact hm r a
  have kd : ∀ t k, Kd eb { L with mv := mv', ma := ma', mf := mf' } e.n t k → Kd eb L e.n t k := fun t k hk => by
    match t, hk with
    | 0, hk => exact hk
    | 1, hk => exact hk
    | 2, hk => exact hk
    | 3, hk => exact hk
    | 4, hk => exact hk
    | 5, hk => exact hk
    | 6, hk => exact hk
    | 7, hk => exact hk
    | 8, hk => exact hk.imp id fun ⟨r, hr, hcr, hk⟩ => ⟨r, hr, hcr, by rw [← (hv r hcr).2.2]; exact hk⟩
    | 9, hk => exact hk.imp id fun ⟨r, hr, hcr, hk⟩ => ⟨r, hr, hcr, by rw [← (hv r hcr).2.1]; exact hk⟩
    | _ + 10, hk => exact hk.elim
  refine ⟨K.head (by decide), K.procs (by decide), K.list (by decide), K.ops (by decide), K.last (by decide), K.log (by decide), K.st, K.mac (by decide) (by decide) (by decide), fun r hr => ?_, h.inj, h.stn, fun r hr hcr => ?_, fun k hk => Nat.lt_of_lt_of_le (h.sz k hk) ho.size, fun k ⟨t, hk⟩ => h.hS k ⟨t, kd t k hk⟩, ⟨h.rel.procs, h.rel.len, h.rel.cnt, h.rel.ann, fun r hr => ?_⟩⟩
  · dsimp only
    by_cases a : r = p
    · subst a
      rw [putN_same]
      exact hq
    · rw [putN_other _ _ a, hx r a, (hm r a).1, (hm r a).2.1, (hm r a).2.2]
      exact (h.pr r hr).only ho fun g => (hG _ g).elim (fun g => a (h.inj _ _ hr hp g)) fun g => g.1 ⟨5, r, hr, rfl⟩
  · have C := h.cop r hr hcr
    have v := hv r hcr
    have c1 := K.clast (by decide) r hr hcr
    have c2 := K.cfresh (by decide) r hr hcr
    have c3 := K.cst r hr hcr
    have same : (putN e.ps p q' r).mlast = (e.ps r).mlast ∧ (putN e.ps p q' r).fresh = (e.ps r).fresh ∧ (putN e.ps p q' r).mst = (e.ps r).mst := by
      by_cases a : r = p
      · subst a
        rw [putN_same]
        exact (hc hcr).2.2.2
      · rw [putN_other _ _ a]
        exact ⟨rfl, rfl, rfl⟩
    refine ⟨?_, ?_, ?_, ?_, fun g hg => ?_, fun g hg => ?_⟩
    · dsimp only; rw [v.2.1, same.1]; exact c1
    · dsimp only; rw [v.2.2, same.2.1]; exact c2
    · dsimp only; rw [v.1, same.2.2]; exact c3
    · dsimp only; rw [v.1, same.2.2]; exact C.stn
    · dsimp only at hg ⊢
      rw [v.2.1] at hg
      exact ⟨(C.sepA g hg).1, fun s hs hn hcs => by rw [(hv s hcs).2.1]; exact (C.sepA g hg).2 s hs hn hcs⟩
    · dsimp only at hg ⊢
      rw [v.2.2] at hg
      exact ⟨(C.sepF g hg).1, fun s hs hn hcs => by rw [(hv s hcs).2.2]; exact (C.sepF g hg).2 s hs hn hcs⟩
  · rw [h.rel.s r hr]
    show ((e.ps r).did : Int) = (putN e.ps p q' r).did
    by_cases a : r = p
    · rw [a, putN_same, hd]
    · rw [putN_other _ _ a]

/-- A process lets its copy go. -/
theorem EgL.drop {w : World} {eb : Nat} {L : HL} {x : Nat → Value} {e : Eg} {M : Mc} {N : Nat} (h : EgL w eb L x e M N) (p : Nat) : EgL w eb { L with cp := putN L.cp p False } x e M N := by
  have hv : ∀ r, putN L.cp p False r → L.cp r := fun r hr => by
    by_cases a : r = p
    · rw [a, putN_same] at hr; exact hr.elim
    · rw [putN_other _ _ a] at hr; exact hr
  have kd : ∀ t k, Kd eb { L with cp := putN L.cp p False } e.n t k → Kd eb L e.n t k := fun t k hk => by
    match t, hk with
    | 0, hk => exact hk
    | 1, hk => exact hk
    | 2, hk => exact hk
    | 3, hk => exact hk
    | 4, hk => exact hk
    | 5, hk => exact hk
    | 6, hk => exact hk
    | 7, hk => exact hk
    | 8, hk => exact hk.imp id fun ⟨r, hr, hcr, hk⟩ => ⟨r, hr, hv r hcr, hk⟩
    | 9, hk => exact hk.imp id fun ⟨r, hr, hcr, hk⟩ => ⟨r, hr, hv r hcr, hk⟩
    | _ + 10, hk => exact hk.elim
  refine ⟨h.head, h.procs, h.list, h.ops, h.last, h.log, h.st, h.mac, h.pr, h.inj, h.stn, fun r hr hcr => ?_, h.sz, fun k ⟨t, hk⟩ => h.hS k ⟨t, kd t k hk⟩, h.rel⟩
  have C := h.cop r hr (hv r hcr)
  exact ⟨C.last, C.fresh, C.st, C.stn, fun g hg => ⟨(C.sepA g hg).1, fun s hs hn hcs => (C.sepA g hg).2 s hs hn (hv s hcs)⟩, fun g hg => ⟨(C.sepF g hg).1, fun s hs hn hcs => (C.sepF g hg).2 s hs hn (hv s hcs)⟩⟩

/-- A process has a copy. -/
theorem EgL.take {w : World} {eb : Nat} {L : HL} {x : Nat → Value} {e : Eg} {M : Mc} {N p : Nat} (h : EgL w eb L x e M N) (hn : ¬ L.cp p) {S' : Nat → Prop} (hS : ∀ k, L.S k → S' k)
    (hlast : w.ownsRow 0 91 2 (L.ma p) e.n (anC (e.ps p).mlast e.n)) (hfresh : OwnR w 0 (L.mf p) (e.ps p).fresh) (hst : RdI w (L.mv p) (e.ps p).mst.L) (hstn : (e.ps p).mst.L = [] ∨ ∀ g, (L.mv p).ownBlock = some g → S' g)
    (sepA : ∀ g, (L.ma p).ownBlock = some g → L.av.ownBlock ≠ some g ∧ ∀ r, r < e.n → r ≠ p → L.cp r → (L.ma r).ownBlock ≠ some g)
    (sepF : ∀ g, (L.mf p).ownBlock = some g → L.lv.ownBlock ≠ some g ∧ ∀ r, r < e.n → r ≠ p → L.cp r → (L.mf r).ownBlock ≠ some g)
    (nS : ∀ g, (L.ma p).ownBlock = some g ∨ (L.mf p).ownBlock = some g → ¬ S' g) (sz : ∀ k, S' k → k < w.heap.size) (hE : ∀ k, HasE eb L e.n k → ¬ S' k) :
    EgL w eb { L with cp := putN L.cp p True, S := S' } x e M N := by
  have hv : ∀ r, putN L.cp p True r → r = p ∨ (r ≠ p ∧ L.cp r) := fun r hr => by
    by_cases a : r = p
    · exact .inl a
    · rw [putN_other _ _ a] at hr; exact .inr ⟨a, hr⟩
  have kd : ∀ t k, Kd eb { L with cp := putN L.cp p True, S := S' } e.n t k → Kd eb L e.n t k ∨ (L.ma p).ownBlock = some k ∨ (L.mf p).ownBlock = some k := fun t k hk => by
    match t, hk with
    | 0, hk => exact .inl hk
    | 1, hk => exact .inl hk
    | 2, hk => exact .inl hk
    | 3, hk => exact .inl hk
    | 4, hk => exact .inl hk
    | 5, hk => exact .inl hk
    | 6, hk => exact .inl hk
    | 7, hk => exact .inl hk
    | 8, hk =>
      rcases hk with hk | ⟨r, hr, hcr, hk⟩
      · exact .inl (.inl hk)
      · rcases hv r hcr with rfl | ⟨_, a⟩
        · exact .inr (.inr hk)
        · exact .inl (.inr ⟨r, hr, a, hk⟩)
    | 9, hk =>
      rcases hk with hk | ⟨r, hr, hcr, hk⟩
      · exact .inl (.inl hk)
      · rcases hv r hcr with rfl | ⟨_, a⟩
        · exact .inr (.inl hk)
        · exact .inl (.inr ⟨r, hr, a, hk⟩)
    | _ + 10, hk => exact hk.elim
  refine ⟨h.head, h.procs, h.list, h.ops, h.last, h.log, h.st, h.mac, h.pr, h.inj, h.stn.imp id fun k g hg => hS g (k g hg), fun r hr hcr => ?_, sz, fun k ⟨t, hk⟩ => (kd t k hk).elim (fun a => hE k ⟨t, a⟩) (nS k), h.rel⟩
  rcases hv r hcr with rfl | ⟨a, hc⟩
  · refine ⟨hlast, hfresh, hst, hstn, fun g hg => ⟨(sepA g hg).1, fun s hs hn hcs => (sepA g hg).2 s hs hn ?_⟩, fun g hg => ⟨(sepF g hg).1, fun s hs hn hcs => (sepF g hg).2 s hs hn ?_⟩⟩
    · exact (hv s hcs).elim (fun b => absurd b hn) fun b => b.2
    · exact (hv s hcs).elim (fun b => absurd b hn) fun b => b.2
  · have C := h.cop r hr hc
    refine ⟨C.last, C.fresh, C.st, C.stn.imp id fun k g hg => hS g (k g hg), fun g hg => ⟨(C.sepA g hg).1, fun s hs hn hcs => ?_⟩, fun g hg => ⟨(C.sepF g hg).1, fun s hs hn hcs => ?_⟩⟩
    · rcases hv s hcs with rfl | ⟨_, b⟩
      · exact fun e1 => (sepA g e1).2 r hr a hc hg
      · exact (C.sepA g hg).2 s hs hn b
    · rcases hv s hcs with rfl | ⟨_, b⟩
      · exact fun e1 => (sepF g e1).2 r hr a hc hg
      · exact (C.sepF g hg).2 s hs hn b

/-! ### The machine's cells -/

theorem inM_nat {k n : Nat} (h : k < n) : inM (k : Int) (n : Int) = true := decide_eq_true ⟨by omega, by omega⟩

/-- One more access is counted. -/
theorem HRel.step {e e' : Eg} {M : Mc} {p : Nat} (h : HRel e M) (hp : p < e.n) (h1 : e'.n = e.n) (h2 : e'.count = e.count) (h3 : e'.ann = e.ann)
    (h7 : ∀ r, r ≠ p → (e'.ps r).did = (e.ps r).did) (h8 : (e'.ps p).did = (e.ps p).did + 1) : HRel e' (readM M (p : Int)) := by
  have hin : inM (p : Int) M.procs = true := by rw [h.procs]; exact inM_nat hp
  refine ⟨by rw [h1]; exact h.procs, by rw [h1]; exact h.len, by rw [h2]; exact h.cnt, by rw [h1, h3]; exact h.ann, fun r hr => ?_⟩
  rw [h1] at hr
  show stepM M (p : Int) (r : Int) = _
  unfold stepM putF
  rw [if_pos hin]
  by_cases a : r = p
  · subst a
    rw [if_pos rfl, h8, h.s r hr]
    omega
  · rw [if_neg (by omega), h7 r a]
    exact h.s r hr

/-- One access more, and a cell is told anew. -/
theorem HRel.put {e e' : Eg} {M : Mc} {p : Nat} {c v : Int} (h : HRel e M) (hp : p < e.n) (hc : inM c M.len = true) (h1 : e'.n = e.n) (h2 : (e'.count : Int) = if c = 0 then v else (e.count : Int))
    (h3 : ∀ r, r < e.n → (e'.ann r : Int) = if c = 1 + (r : Int) then v else (e.ann r : Int))
    (h7 : ∀ r, r ≠ p → (e'.ps r).did = (e.ps r).did) (h8 : (e'.ps p).did = (e.ps p).did + 1) (g : Int → Int) (hg : g (M.c c) = v) : HRel e' (accM M (p : Int) c g) := by
  have hin : inM (p : Int) M.procs = true := by rw [h.procs]; exact inM_nat hp
  rw [accM_in hc, hg]
  refine ⟨by rw [h1]; exact h.procs, by rw [h1]; exact h.len, ?_, fun r hr => ?_, fun r hr => ?_⟩
  · rw [h2, ← h.cnt]
    show putF M.c c v 0 = _
    unfold putF
    by_cases a : c = 0
    · rw [if_pos a]
    · rw [if_neg a]
  · rw [h1] at hr
    rw [h3 r hr, ← h.ann r hr]
    show putF M.c c v (1 + (r : Int)) = _
    unfold putF
    by_cases a : c = 1 + (r : Int)
    · rw [if_pos a]
    · rw [if_neg a]
  · rw [h1] at hr
    show stepM M (p : Int) (r : Int) = _
    unfold stepM putF
    rw [if_pos hin]
    by_cases a : r = p
    · subst a
      rw [if_pos rfl, h8, h.s r hr]
      omega
    · rw [if_neg (by omega), h7 r a]
      exact h.s r hr

theorem did_step {e : Eg} {M : Mc} {p : Nat} {q' : Pc} (h : HRel e M) (hp : p < e.n) (hd : q'.did = (e.ps p).did + 1) : HRel { e with ps := putN e.ps p q' } (readM M (p : Int)) := by
  refine h.step hp rfl rfl rfl (fun r hr => ?_) ?_
  · show (putN e.ps p _ r).did = _
    rw [putN_other _ _ hr]
  · show (putN e.ps p _ p).did = _
    rw [putN_same]
    exact hd

theorem putN_putN {α : Type} (f : Nat → α) (k : Nat) (u v : α) : putN (putN f k u) k v = putN f k v := by
  funext j
  unfold putN
  by_cases a : j = k
  · rw [if_pos a, if_pos a]
  · rw [if_neg a, if_neg a, if_neg a]

theorem putN_id {α : Type} (f : Nat → α) (k : Nat) : putN f k (f k) = f := by
  funext j
  unfold putN
  split
  · rename_i a; rw [a]
  · rfl

theorem only_drew (F : Nat → Prop) (w : World) : Only F w w.drew := Only.ofBelow ((Below.refl _ w).drew)

theorem i64_nat {n : Nat} (h : n ≤ 1000000000000) : I64 (n : Int) := ⟨by omega, by omega⟩

theorem nxV_ne (q : Nat) {x : Nx} (h : x ≠ .rest) : nxV q x = .func (.func (fnOf x)) #[ptr q] #[] := if_neg h

theorem nxV_rest (q : Nat) : nxV q .rest = .nilFunc := if_pos rfl

theorem wrap_lit (n : Int) (h0 : 0 ≤ n) (h1 : n ≤ 1000000000) : IntKind.i64.wrap n = n := mwrap n (by omega) (by omega)

end Go.Proofs.Ytedfacbngefhnaa
