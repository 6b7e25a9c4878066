import Derived.Test.YtddhcohjmgdajabDoorPack2
import Derived.Lib.VarintMem
import Derived.Lib.Endian
import Derived.Test.YtddhcohjmgdajabDoorPack1
import Derived.Deep.RegionHeld
import Derived.Deep.DeepCutAuto
import Derived.ChangeSlices
/- Slices of records in memory: what one reads ('RdR'), what a call owns ('OwnR'), and append onto them. -/
namespace Go.Proofs.YtddhcohjmgdajabDoor
open Go.RowKit

/-- A record's seven cells. -/
def RecAt (w : World) (b o : Nat) (r : Rec) : Prop :=
  w.cell? ⟨b, o, none⟩ = some (.int .i64 r.idx) ∧ w.cell? ⟨b, o + 1, none⟩ = some (.int .i64 r.proc) ∧ w.cell? ⟨b, o + 2, none⟩ = some (.int .i64 r.seq) ∧ w.cell? ⟨b, o + 3, none⟩ = some (.int .i64 r.op.code) ∧ w.cell? ⟨b, o + 4, none⟩ = some (.int .i64 r.op.a) ∧ w.cell? ⟨b, o + 5, none⟩ = some (.int .i64 r.op.b) ∧ w.cell? ⟨b, o + 6, none⟩ = some (.int .i64 r.resp)

set_option maxRecDepth 100000 in
theorem RecAt.lt {w : World} {b o : Nat} {r : Rec} (h : RecAt w b o r) : b < w.heap.size := World.block_lt_of_cell? w ⟨b, o, none⟩ h.1

set_option maxRecDepth 100000 in
theorem RecAt.keep {w w' : World} {b o : Nat} {r : Rec} (h : RecAt w b o r) (hk : w'.heap[b]? = w.heap[b]?) : RecAt w' b o r := by
  have hc : ∀ i, w'.cell? ⟨b, i, none⟩ = w.cell? ⟨b, i, none⟩ := fun i => World.cell?_of_block (a := ⟨b, i, none⟩) hk
  unfold RecAt at h ⊢
  simp only [hc]
  exact h

/-- The slice value v reads, in the world w, as the records l. -/
def RdR (w : World) (v : Value) (l : List Rec) : Prop :=
  ∃ ao cap, v = .slice ao l.length cap ∧ l.length ≤ cap ∧ cap ≤ maxLen ∧ (ao = none → cap = 0) ∧ (∀ r ∈ l, RecOk r) ∧
    (l = [] ∨ ∃ b off, ao = some ⟨b, off, none⟩ ∧ ∀ j, j < l.length → RecAt w b (off + j * 7) (l.getD j zeroR))

set_option maxRecDepth 100000 in
theorem RdR.nil (w : World) : RdR w (.slice none 0 0) [] := ⟨none, 0, rfl, Nat.le_refl _, Nat.zero_le _, fun _ => rfl, (fun r h => by simp at h), .inl rfl⟩

set_option maxRecDepth 100000 in
theorem RdR.below {w w' : World} {v : Value} {l : List Rec} (h : RdR w v l) {B : Nat} (hb : Below B w w') (hB : w.heap.size ≤ B) : RdR w' v l := by
  obtain ⟨ao, cap, h1, h2, h3, hn, hw, h4⟩ := h
  refine ⟨ao, cap, h1, h2, h3, hn, hw, ?_⟩
  rcases h4 with h4 | ⟨b, off, h5, h6⟩
  · exact .inl h4
  · refine .inr ⟨b, off, h5, fun j hj => ?_⟩
    have h7 := h6 j hj
    exact h7.keep (hb.block b (by have := h7.lt; omega))

set_option maxRecDepth 100000 in
theorem RdR.front {w : World} {ao : Option Addr} {n cap : Nat} {l : List Rec} (h : RdR w (.slice ao n cap) l) (k : Nat) (hk : k ≤ l.length) : RdR w (.slice ao k cap) (l.take k) := by
  obtain ⟨ao', cap', hv, h1, h2, h3, hw, h4⟩ := h
  simp only [Value.slice.injEq] at hv
  obtain ⟨rfl, _, rfl⟩ := hv
  have hlen : (l.take k).length = k := by simp; omega
  refine ⟨ao, cap, by rw [hlen], by omega, h2, h3, fun r hr => hw r (List.mem_of_mem_take hr), ?_⟩
  rcases h4 with h4 | ⟨b, off, h5, h6⟩
  · exact .inl (by rw [h4]; simp)
  · refine .inr ⟨b, off, h5, fun j hj => ?_⟩
    have hj2 : j < k := by omega
    have e : (l.take k).getD j zeroR = l.getD j zeroR := by simp [List.getD, hj2]
    rw [e]
    exact h6 j (by omega)

/-- The cells of records. -/
def recCells : List Rec → List Value
  | [] => []
  | r :: t => (recC r).toList ++ recCells t

set_option maxRecDepth 100000 in
theorem recCells_length : ∀ l : List Rec, (recCells l).length = l.length * 7
  | [] => rfl
  | r :: t => by
    rw [recCells, List.length_append, recCells_length t, List.length_cons]
    simp [recC]
    omega

set_option maxRecDepth 100000 in
theorem recCells_app : ∀ a b : List Rec, recCells (a ++ b) = recCells a ++ recCells b
  | [], _ => rfl
  | r :: t, b => by rw [List.cons_append, recCells, recCells_app t b, recCells, List.append_assoc]

set_option maxRecDepth 100000 in
theorem recCells_get : ∀ (l : List Rec) (j k : Nat), j < l.length → k < 7 → (recCells l)[j * 7 + k]? = (recC (l.getD j zeroR))[k]?
  | r :: t, 0, k, _, hk => by
    rw [recCells, Nat.zero_mul, Nat.zero_add, List.getElem?_append_left (by simp [recC]; omega)]
    simp [List.getD]
  | r :: t, j + 1, k, hj, hk => by
    have e : (j + 1) * 7 + k = (recC r).toList.length + (j * 7 + k) := by simp [recC]; omega
    rw [recCells, e, List.getElem?_append_right (by omega), Nat.add_sub_cancel_left, recCells_get t j k (by simpa using hj) hk]
    simp [List.getD]

set_option maxRecDepth 100000 in
theorem recCells_one (l : List Rec) : ∀ u ∈ recCells l, u.oneCell' = true := by
  induction l with
  | nil => intro u hu; simp [recCells] at hu
  | cons r t ih =>
    intro u hu
    rw [recCells] at hu
    rcases List.mem_append.1 hu with h | h
    · simp [recC] at h
      rcases h with rfl | rfl | rfl | rfl | rfl | rfl | rfl <;> rfl
    · exact ih u h

/-- The slice value v lies at the head of a row of its own, from block B on, that holds the records l. -/
def OwnR (w : World) (B : Nat) (v : Value) (l : List Rec) : Prop := w.ownsRow B 44 7 v l.length (recCells l)

set_option maxRecDepth 100000 in
theorem OwnR.nil (w : World) (B : Nat) : OwnR w B (.slice none 0 0) [] := World.ownsRow_nil w B 44 7

set_option maxRecDepth 100000 in
theorem OwnR.rd {w : World} {B : Nat} {v : Value} {l : List Rec} (h : OwnR w B v l) (hw : ∀ r ∈ l, RecOk r) : RdR w v l := by
  rcases h.2 with ⟨hv, hn⟩ | ⟨g, cap, cur, hv, hb, hg, hnc, hcm, hcs, htake⟩
  · exact ⟨none, 0, by rw [hv, hn], by omega, Nat.zero_le _, fun _ => rfl, hw, .inl (List.eq_nil_of_length_eq_zero hn)⟩
  · refine ⟨some ⟨g, 0, none⟩, cap, hv, hnc, hcm, (fun e => by cases e), hw, .inr ⟨g, 0, rfl, fun j hj => ?_⟩⟩
    have hc : ∀ k u, k < 7 → (recC (l.getD j zeroR))[k]? = some u → w.cell? ⟨g, 0 + j * 7 + k, none⟩ = some u := fun k u hk hu => by
      have := World.ownsRow.cells h (g := g) (by rw [hv]; rfl) (j * 7 + k) u ((recCells_get l j k hj hk).trans hu)
      rw [Addr.add_lit] at this
      rw [Nat.add_assoc]
      exact this
    exact ⟨hc 0 _ (by decide) rfl, hc 1 _ (by decide) rfl, hc 2 _ (by decide) rfl, hc 3 _ (by decide) rfl, hc 4 _ (by decide) rfl, hc 5 _ (by decide) rfl, hc 6 _ (by decide) rfl⟩

set_option maxRecDepth 100000 in
theorem OwnR.below {w w' : World} {B B' : Nat} {v : Value} {l : List Rec} (h : OwnR w B v l) (hb : Below B' w w') (hB : w.heap.size ≤ B') : OwnR w' B v l := by
  obtain ⟨h1, h2⟩ := h
  refine ⟨h1, ?_⟩
  rcases h2 with h2 | ⟨g, cap, cur, hv, hbg, hg, r⟩
  · exact .inl h2
  · have hlt : g < w.heap.size := (Array.getElem?_eq_some_iff.1 hg).1
    exact .inr ⟨g, cap, cur, hv, hbg, by rw [hb.block g (by omega)]; exact hg, r⟩

set_option maxRecDepth 100000 in
theorem OwnR.mono {w : World} {B B' : Nat} {v : Value} {l : List Rec} (h : OwnR w B v l) (hB : B' ≤ B) : OwnR w B' v l := by
  obtain ⟨h1, h2⟩ := h
  refine ⟨h1, ?_⟩
  rcases h2 with h2 | ⟨g, cap, cur, hv, hb, r⟩
  · exact .inl h2
  · exact .inr ⟨g, cap, cur, hv, by omega, r⟩

set_option maxRecDepth 100000 in
theorem OwnR.shape {w : World} {B : Nat} {v : Value} {l : List Rec} (h : OwnR w B v l) : ∃ ao cap, v = .slice ao l.length cap := by
  rcases h.2 with ⟨hv, hn⟩ | ⟨g, cap, cur, hv, _⟩
  · exact ⟨none, 0, by rw [hv, hn]⟩
  · exact ⟨_, _, hv⟩

set_option maxRecDepth 100000 in
theorem info_rec : (Tryd.prog.info? 44).map (fun i => (i.zero, i.size, i.bytes)) = some (some (.agg #[.int .i64 0, .int .i64 0, .int .i64 0, .int .i64 0, .int .i64 0, .int .i64 0, .int .i64 0]), 7, 56) := by kernel_rfl

set_option maxRecDepth 100000 in
/-- One more record behind a row of one's own. -/
theorem run_append_rec (w : World) (ty : TypeId) (B : Nat) (v : Value) (l : List Rec) (h : OwnR w B v l) (r : Rec) (hlim : l.length ≤ 1000000) (hbase : B ≤ w.heap.size) :
    ∃ v' w', (Builtin.append_ #[22, 22] ty #[v, .slice (some ⟨w.heap.size, 0, none⟩) 1 1]).run Tryd.prog (w.alloc (.cells (recC r) 44)) = .ok v' w' ∧ OwnR w' B v' (l ++ [r]) ∧ Below B w w' := by
  obtain ⟨i0, hi, hz0, hz1, hz2⟩ := info_parts info_rec
  obtain ⟨v', w', hrun, ho, hg, _⟩ := run_append_own (P := Tryd.prog) (w.alloc (.cells (recC r) 44)) B 22 ty 44 i0 _ 7 56 Tryd.underlying22 hi hz0 hz1 hz2 rfl (by decide) v l.length (recCells l) (h.alloc _)
    ⟨w.heap.size, 0, none⟩ 1 1 (recCells [r]) (recCells_length [r]) (fun j u hj => by
      rw [Addr.add_lit, Nat.zero_add, cell_of_row _ w.heap.size j _ 44 (0, 0) (heap_alloc_new w _)]
      simpa [recCells] using hj) (recCells_one [r]) (by unfold maxLen; omega) (by omega) (by simp; omega)
  refine ⟨v', w', hrun, ?_, ?_⟩
  · unfold OwnR
    rw [List.length_append, recCells_app]
    exact ho
  · exact ((Below.refl _ _).alloc hbase _).grown hg (by simp; omega) (fun k hk => (World.ownsRow.lt h k hk).1)

set_option maxRecDepth 100000 in
theorem wpList_append_rec (w : World) {ops : Array Oper} {rest : List Oper} {o : Oper} {a : Act} {Q : Exit → Act → World → Prop} (hgd : o.guard = none) (s x : Operand)
    (ho : o.op = .call { callee := .builtin .append, args := #[s, x], argTypes := #[22, 22] })
    (B : Nat) (v : Value) (l : List Rec) (hs : a.eval s = v) (hown : OwnR w B v l) (r : Rec) (hx : a.eval x = .slice (some ⟨w.heap.size, 0, none⟩) 1 1)
    (hlim : l.length ≤ 1000000) (hbase : B ≤ w.heap.size)
    (h : ∀ v' w', OwnR w' B v' (l ++ [r]) → Below B w w' → wpList Tryd.prog ops Q rest (a.put o.dst v') w') : wpList Tryd.prog ops Q (o :: rest) a (w.alloc (.cells (recC r) 44)) :=
  wpList_plain hgd fun _ hK => by
    obtain ⟨v', w', hrun, h2, h3⟩ := run_append_rec w o.type B v l hown r hlim hbase
    unfold Oper.wp execOp
    simp only [ho, resolve, invoke, builtin, Sem.run_bind, Sem.run_pure, Result.andThen_ok, List.map_toArray, List.map_cons, List.map_nil, hs, hx, hrun]
    exact hK _ _ (h v' w' h2 h3)

set_option maxRecDepth 100000 in
theorem elem_recs : Tryd.prog.elem 22 = 44 := by kernel_rfl

set_option maxRecDepth 100000 in
theorem under_recs : Tryd.prog.underlying 22 = some (.slice (Tryd.prog.elem 22)) := by rw [elem_recs]; exact Tryd.underlying22

set_option maxRecDepth 100000 in
theorem size_rec (w : World) : (sizeOf 44).run Tryd.prog w = .ok 7 w := by
  obtain ⟨i0, hi, _, hz1, _⟩ := info_parts info_rec
  simp [sizeOf, typeInfo, hi, hz1]

set_option maxRecDepth 100000 in
/-- The first records of a slice. -/
theorem run_front_recs (W : World) (ao : Option Addr) (n cap : Nat) (i : Int) (k : Nat) (hi : i = (k : Int)) (hk : k ≤ cap) :
    (Instr.sliceAt 22 (.slice ao n cap) none (some (.int .i64 i)) none).run Tryd.prog W = .ok (.slice ao k cap) W := by
  subst hi
  rw [run_sliceAt_slice W 22 _ _ _ _ under_recs, run_slice_h W 22 ao n cap under_recs .i64 (k : Int) (by omega) (by omega), elem_recs, size_rec]
  have e : sliced ao 0 k cap 7 = .slice ao k cap := by
    unfold sliced
    cases ao <;> simp [Addr.add]
  simp [e]

end Go.Proofs.YtddhcohjmgdajabDoor

/- Plain mathematics of layer crc: one bit of the register, the sum of bytes as that bit's step repeated, and what follows. No program is named here. -/
namespace Go.Proofs.YtddhcohjmgdajabDoor

/-- One bit: half of it, exclusive or the polynomial, if it was odd. -/
def tick (x : Nat) : Nat := if x % 2 = 1 then x / 2 ^^^ 2197175160 else x / 2

/-- So many bits. -/
def ticks : Nat → Nat → Nat
  | 0, x => x
  | n + 1, x => ticks n (tick x)

/-- The table's entry. -/
def entry (c : Nat) : Nat := ticks 8 c

/-- One byte of a sum. -/
def crcByte (x c : Nat) : Nat := entry ((x ^^^ c) % 256) ^^^ x / 256

/-- The register behind bytes. -/
def crcReg : Nat → List UInt8 → Nat
  | x, [] => x
  | x, c :: r => crcReg (crcByte x c.toNat) r

/-- What More answers. -/
def crcMore (sum : Nat) (l : List UInt8) : Nat := crcReg (sum ^^^ 4294967295) l ^^^ 4294967295

theorem xor_mod2 (a b : Nat) : (a ^^^ b) % 2 = (a % 2 + b % 2) % 2 := by
  have h := @Nat.xor_mod_two_pow a b 1
  simp only [Nat.pow_one] at h
  rw [h]
  rcases Nat.mod_two_eq_zero_or_one a with ha | ha <;> rcases Nat.mod_two_eq_zero_or_one b with hb | hb <;> rw [ha, hb] <;> rfl

theorem xor_div2 (a b : Nat) : (a ^^^ b) / 2 = a / 2 ^^^ b / 2 := by
  have h := @Nat.shiftRight_xor_distrib 1 a b
  simpa [Nat.shiftRight_eq_div_pow] using h

theorem xor_cancel4 (a b p : Nat) : (a ^^^ p) ^^^ (b ^^^ p) = a ^^^ b := by
  rw [Nat.xor_comm b p, ← Nat.xor_assoc, Nat.xor_assoc a p p, Nat.xor_self, Nat.xor_zero]

theorem tick_xor (a b : Nat) : tick (a ^^^ b) = tick a ^^^ tick b := by
  unfold tick
  rw [xor_mod2, xor_div2]
  rcases Nat.mod_two_eq_zero_or_one a with ha | ha <;> rcases Nat.mod_two_eq_zero_or_one b with hb | hb <;> simp only [ha, hb]
  · rfl
  · simp [Nat.xor_assoc]
  · simp only [if_true, if_false, Nat.zero_ne_one]
    rw [Nat.xor_assoc, Nat.xor_assoc, Nat.xor_comm (b / 2)]
  · simp [xor_cancel4]

theorem ticks_xor : ∀ (n a b : Nat), ticks n (a ^^^ b) = ticks n a ^^^ ticks n b
  | 0, _, _ => rfl
  | n + 1, a, b => by
    simp only [ticks]
    rw [tick_xor, ticks_xor n]

theorem ticks_add : ∀ (m n x : Nat), ticks (m + n) x = ticks n (ticks m x)
  | 0, n, x => by rw [Nat.zero_add]; rfl
  | m + 1, n, x => by
    rw [Nat.add_right_comm]
    simp only [ticks]
    exact ticks_add m n (tick x)

theorem tick_even (x : Nat) : tick (2 * x) = x := by
  unfold tick
  rw [if_neg (by omega)]
  omega

theorem ticks_pow : ∀ (n x : Nat), ticks n (2 ^ n * x) = x
  | 0, x => by simp [ticks]
  | n + 1, x => by
    simp only [ticks]
    rw [Nat.pow_succ, Nat.mul_comm (2 ^ n) 2, Nat.mul_assoc, tick_even]
    exact ticks_pow n x

theorem tick_lt {n x : Nat} (hn : 32 ≤ n) (h : x < 2 ^ n) : tick x < 2 ^ n := by
  unfold tick
  have h2 : x / 2 < 2 ^ n := by omega
  split
  · refine Nat.xor_lt_two_pow h2 (Nat.lt_of_lt_of_le (by decide : 2197175160 < 2 ^ 32) (Nat.pow_le_pow_right (by decide) hn))
  · exact h2

theorem ticks_lt : ∀ (k : Nat) {n x : Nat}, 32 ≤ n → x < 2 ^ n → ticks k x < 2 ^ n
  | 0, _, _, _, h => h
  | k + 1, _, _, hn, h => ticks_lt k hn (tick_lt hn h)

theorem xor_zero_eq {a b : Nat} (h : a ^^^ b = 0) : a = b := by
  have e : (a ^^^ b) ^^^ b = 0 ^^^ b := by rw [h]
  rwa [Nat.xor_assoc, Nat.xor_self, Nat.xor_zero, Nat.zero_xor] at e

theorem xor_right {a b c : Nat} (h : a ^^^ c = b ^^^ c) : a = b := by
  have e : (a ^^^ c) ^^^ c = (b ^^^ c) ^^^ c := by rw [h]
  rwa [Nat.xor_assoc, Nat.xor_self, Nat.xor_zero, Nat.xor_assoc, Nat.xor_self, Nat.xor_zero] at e

theorem tick_zero {x : Nat} (hx : x < 4294967296) (h : tick x = 0) : x = 0 := by
  unfold tick at h
  split at h
  · have := xor_zero_eq h
    omega
  · omega

theorem ticks_zero : ∀ (k : Nat) {x : Nat}, x < 4294967296 → ticks k x = 0 → x = 0
  | 0, _, _, h => h
  | k + 1, x, hx, h => tick_zero hx (ticks_zero k (by have := tick_lt (n := 32) (Nat.le_refl _) (by omega : x < 2 ^ 32); omega) h)

theorem ticks_inj (k : Nat) {a b : Nat} (ha : a < 4294967296) (hb : b < 4294967296) (h : ticks k a = ticks k b) : a = b := by
  apply xor_zero_eq
  have hlt : a ^^^ b < 2 ^ 32 := Nat.xor_lt_two_pow (by omega) (by omega)
  apply ticks_zero k (by omega)
  rw [ticks_xor, h, Nat.xor_self]

/-- A number is its low bits, exclusive or what is above them. -/
theorem low_high (z n : Nat) : z = z % 2 ^ n ^^^ 2 ^ n * (z / 2 ^ n) := by
  apply Nat.eq_of_testBit_eq
  intro i
  rw [Nat.testBit_xor, Nat.testBit_mod_two_pow, Nat.testBit_two_pow_mul]
  by_cases h : i < n
  · have h2 : ¬ n ≤ i := by omega
    simp [h, h2]
  · have h2 : n ≤ i := by omega
    simp only [h, h2, decide_false, decide_true, Bool.false_and, Bool.true_and, Bool.false_xor, Nat.testBit_div_two_pow]
    rw [Nat.sub_add_cancel h2]

theorem crcByte_ticks (x c : Nat) (hc : c < 256) : crcByte x c = ticks 8 (x ^^^ c) := by
  have e : (x ^^^ c) / 256 = x / 256 := by
    have h := @Nat.shiftRight_xor_distrib 8 x c
    simp only [Nat.shiftRight_eq_div_pow] at h
    have h0 : c / 2 ^ 8 = 0 := by omega
    rw [h0, Nat.xor_zero] at h
    exact h
  have h := low_high (x ^^^ c) 8
  unfold crcByte entry
  conv => rhs; rw [h]
  rw [ticks_xor, ticks_pow]
  show _ = ticks 8 ((x ^^^ c) % 256) ^^^ (x ^^^ c) / 256
  rw [e]

theorem leNat_cons_xor (c : UInt8) (r : List UInt8) : Lib.leNat (c :: r) = c.toNat ^^^ 2 ^ 8 * Lib.leNat r := by
  have hc := c.toNat_lt
  have h := low_high (Lib.leNat (c :: r)) 8
  have e1 : Lib.leNat (c :: r) % 2 ^ 8 = c.toNat := by simp only [Lib.leNat]; omega
  have e2 : Lib.leNat (c :: r) / 2 ^ 8 = Lib.leNat r := by simp only [Lib.leNat]; omega
  rw [e1, e2] at h
  exact h

/-- The register behind bytes is that bit's step, eight times a byte, of the register and the bytes' number. -/
theorem crcReg_ticks : ∀ (l : List UInt8) (x : Nat), crcReg x l = ticks (8 * l.length) (x ^^^ Lib.leNat l)
  | [], x => by simp [crcReg, Lib.leNat, ticks]
  | c :: r, x => by
    have hc := c.toNat_lt
    rw [crcReg, crcReg_ticks r, crcByte_ticks x c.toNat (by omega), leNat_cons_xor, ← Nat.xor_assoc]
    have e : 8 * (c :: r).length = 8 + 8 * r.length := by simp; omega
    rw [e, ticks_add, ticks_xor 8 (x ^^^ c.toNat) (2 ^ 8 * Lib.leNat r), ticks_pow]

theorem crcReg_append : ∀ (a b : List UInt8) (x : Nat), crcReg x (a ++ b) = crcReg (crcReg x a) b
  | [], _, _ => rfl
  | c :: r, b, x => by
    rw [List.cons_append, crcReg, crcReg]
    exact crcReg_append r b _

theorem crcByte_lt {x c : Nat} (hx : x < 4294967296) (hc : c < 256) : crcByte x c < 4294967296 := by
  rw [crcByte_ticks x c hc]
  have h : x ^^^ c < 2 ^ 32 := Nat.xor_lt_two_pow (by omega) (by omega)
  have := ticks_lt 8 (Nat.le_refl 32) h
  omega

theorem crcReg_lt : ∀ (l : List UInt8) {x : Nat}, x < 4294967296 → crcReg x l < 4294967296
  | [], _, h => h
  | c :: r, x, h => crcReg_lt r (crcByte_lt h (by have := c.toNat_lt; omega))

theorem not_not (x : Nat) : (x ^^^ 4294967295) ^^^ 4294967295 = x := by rw [Nat.xor_assoc, Nat.xor_self, Nat.xor_zero]

theorem not_lt {x : Nat} (h : x < 4294967296) : x ^^^ 4294967295 < 4294967296 := by
  have := Nat.xor_lt_two_pow (n := 32) (by omega : x < 2 ^ 32) (by decide : 4294967295 < 2 ^ 32)
  omega

theorem not_inj {a b : Nat} (h : a ^^^ 4294967295 = b ^^^ 4294967295) : a = b := by
  rw [← not_not a, h, not_not]

theorem crcMore_lt {sum : Nat} (l : List UInt8) (h : sum < 4294967296) : crcMore sum l < 4294967296 := not_lt (crcReg_lt l (not_lt h))

theorem crcMore_append (sum : Nat) (a b : List UInt8) : crcMore sum (a ++ b) = crcMore (crcMore sum a) b := by
  unfold crcMore
  rw [crcReg_append, not_not]

theorem crcMore_nil (sum : Nat) : crcMore sum [] = sum := not_not sum

/-- Two sums that are not the same go on to two sums. -/
theorem crcMore_seeds {a b : Nat} (l : List UInt8) (ha : a < 4294967296) (hb : b < 4294967296) : crcMore a l = crcMore b l ↔ a = b := by
  constructor
  · intro h
    have h2 := not_inj h
    rw [crcReg_ticks, crcReg_ticks, ticks_xor _ (a ^^^ 4294967295), ticks_xor _ (b ^^^ 4294967295)] at h2
    exact not_inj (ticks_inj _ (not_lt ha) (not_lt hb) (xor_right h2))
  · intro h
    rw [h]

/-- Of two texts of one length: their sums' difference is that of their numbers. -/
theorem crcMore_diff (sum : Nat) (a b : List UInt8) (h : a.length = b.length) : crcMore sum a ^^^ crcMore sum b = ticks (8 * a.length) (Lib.leNat a ^^^ Lib.leNat b) := by
  unfold crcMore
  rw [xor_cancel4, crcReg_ticks, crcReg_ticks, ← h, ← ticks_xor, Nat.xor_comm _ (Lib.leNat a), Nat.xor_comm _ (Lib.leNat b), xor_cancel4]

/-- Whether the low n bits are an odd number of ones. -/
def odds : Nat → Nat → Bool
  | 0, _ => false
  | n + 1, x => (decide (x % 2 = 1)) ^^ odds n (x / 2)

theorem odds_xor : ∀ (n a b : Nat), odds n (a ^^^ b) = (odds n a ^^ odds n b)
  | 0, _, _ => rfl
  | n + 1, a, b => by
    simp only [odds]
    rw [xor_mod2, xor_div2, odds_xor n]
    have e : decide ((a % 2 + b % 2) % 2 = 1) = (decide (a % 2 = 1) ^^ decide (b % 2 = 1)) := by
      rcases Nat.mod_two_eq_zero_or_one a with ha | ha <;> rcases Nat.mod_two_eq_zero_or_one b with hb | hb <;> simp [ha, hb]
    rw [e]
    cases decide (a % 2 = 1) <;> cases decide (b % 2 = 1) <;> cases odds n (a / 2) <;> cases odds n (b / 2) <;> rfl

theorem odds_zero : ∀ n : Nat, odds n 0 = false
  | 0 => rfl
  | n + 1 => by simp [odds, odds_zero n]

/-- Bits beyond the number count nothing. -/
theorem odds_more : ∀ (n x : Nat), x < 2 ^ n → odds (n + 1) x = odds n x
  | 0, x, h => by
    have e : x = 0 := by simpa using h
    subst e
    rfl
  | n + 1, x, h => by
    rw [odds, odds_more n (x / 2) (by rw [Nat.pow_succ] at h; omega)]
    rfl

theorem odds_poly : ∀ n : Nat, odds (n + 32) 2197175160 = true
  | 0 => by decide
  | n + 1 => by
    have h : 2197175160 < 2 ^ (n + 32) := Nat.lt_of_lt_of_le (by decide : 2197175160 < 2 ^ 32) (Nat.pow_le_pow_right (by decide) (by omega))
    have e : n + 1 + 32 = n + 32 + 1 := by omega
    rw [e, odds_more _ _ h]
    exact odds_poly n

theorem odds_tick (n x : Nat) (h : x < 2 ^ (n + 32)) : odds (n + 32) (tick x) = odds (n + 32) x := by
  have e : odds (n + 32) x = (decide (x % 2 = 1) ^^ odds (n + 32) (x / 2)) := (odds_more (n + 32) x h).symm
  rw [e]
  generalize hm : n + 32 = m
  have hp : odds m 2197175160 = true := by rw [← hm]; exact odds_poly n
  unfold tick
  by_cases hx : x % 2 = 1
  · rw [if_pos hx, odds_xor, hp]
    simp [hx]
  · rw [if_neg hx]
    simp [hx]

theorem odds_ticks : ∀ (k n x : Nat), x < 2 ^ (n + 32) → odds (n + 32) (ticks k x) = odds (n + 32) x
  | 0, _, _, _ => rfl
  | k + 1, n, x, h => by
    rw [ticks, odds_ticks k n (tick x) (tick_lt (by omega) h), odds_tick n x h]

theorem odds_pow : ∀ (n k : Nat), k < n → odds n (2 ^ k) = true
  | 0, _, h => by omega
  | n + 1, 0, _ => by
    have e : (2 ^ 0) / 2 = 0 := by decide
    rw [odds, e, odds_zero]
    decide
  | n + 1, k + 1, h => by
    have e1 : 2 ^ (k + 1) % 2 = 0 := by rw [Nat.pow_succ]; omega
    have e2 : 2 ^ (k + 1) / 2 = 2 ^ k := by rw [Nat.pow_succ]; omega
    rw [odds, e1, e2, odds_pow n k (by omega)]
    rfl

/-- A difference of an odd number of bits is seen. -/
theorem odd_seen (n k x : Nat) (h : x < 2 ^ (n + 32)) (ho : odds (n + 32) x = true) : ticks k x ≠ 0 := by
  intro e
  have h2 := odds_ticks k n x h
  rw [e, odds_zero, ho] at h2
  cases h2

/-- A difference within 32 bits in a row is seen. -/
theorem burst_seen (k at' x : Nat) (h0 : x ≠ 0) (hx : x < 4294967296) : ticks (at' + k) (2 ^ at' * x) ≠ 0 := by
  rw [ticks_add, ticks_pow]
  exact fun e => h0 (ticks_zero k hx e)

theorem leNat_lt256 : ∀ l : List UInt8, Lib.leNat l < 2 ^ (8 * l.length)
  | [] => by simp [Lib.leNat]
  | c :: r => by
    have h := leNat_lt256 r
    have hc := c.toNat_lt
    have e : 8 * (c :: r).length = 8 * r.length + 8 := by simp; omega
    simp only [Lib.leNat]
    rw [e, Nat.pow_add]
    omega

/-- Turning bits of one byte turns bits of the number. -/
theorem leNat_set : ∀ (l : List UInt8) (i : Nat) (y : UInt8), i < l.length → Lib.leNat (l.set i (l.getD i 0 ^^^ y)) = Lib.leNat l ^^^ 2 ^ (8 * i) * y.toNat
  | c :: r, 0, y, _ => by
    have e : (c :: r).set 0 ((c :: r).getD 0 0 ^^^ y) = (c ^^^ y) :: r := by simp
    rw [e, leNat_cons_xor, leNat_cons_xor, UInt8.toNat_xor, Nat.xor_assoc, Nat.xor_assoc, Nat.xor_comm y.toNat]
    simp
  | c :: r, i + 1, y, h => by
    have e : (c :: r).set (i + 1) ((c :: r).getD (i + 1) 0 ^^^ y) = c :: r.set i (r.getD i 0 ^^^ y) := by simp
    rw [e, leNat_cons_xor, leNat_cons_xor, leNat_set r i y (by simpa using h)]
    have e2 : 2 ^ (8 * (i + 1)) * y.toNat = 2 ^ 8 * (2 ^ (8 * i) * y.toNat) := by rw [Nat.mul_add, Nat.pow_add, Nat.mul_one, Nat.mul_comm (2 ^ (8 * i)), Nat.mul_assoc]
    rw [e2, Nat.xor_assoc]
    congr 1
    apply Nat.eq_of_testBit_eq
    intro j
    simp only [Nat.testBit_xor, Nat.testBit_two_pow_mul]
    cases decide (8 ≤ j) <;> simp

end Go.Proofs.YtddhcohjmgdajabDoor

/- Frames: the mathematics of layer frame. -/
namespace Go.Proofs.YtddhcohjmgdajabDoor

/-- The length and the data. -/
def headOf (l : List UInt8) : List UInt8 := Lib.uvarint l.length ++ l

/-- The frame of data. -/
def frameOf (l : List UInt8) : List UInt8 := headOf l ++ Lib.leBytes 4 (crcMore 0 (headOf l))

/-- Bytes that may be the beginning of a length. -/
def isOpen (l : List UInt8) : Prop := l.length < 10 ∧ ∀ j, j < l.length → 128 ≤ (l.getD j 0).toNat

instance (l : List UInt8) : Decidable (isOpen l) := by unfold isOpen; infer_instance

/-- What Decode answers: the data, how many bytes the frame has, the error. -/
def decF (l : List UInt8) : List UInt8 × Nat × Nat :=
  if isOpen l then ([], 0, 2) else
  if (dec62 l).2 = 0 then ([], 0, 3) else
  if 1048576 < (dec62 l).1 then ([], 0, 5) else
  if l.length < (dec62 l).2 + 4 + (dec62 l).1 then ([], 0, 2) else
  if Lib.leNat ((l.drop ((dec62 l).2 + (dec62 l).1)).take 4) ≠ crcMore 0 (l.take ((dec62 l).2 + (dec62 l).1)) then ([], 0, 4) else
  ((l.drop (dec62 l).2).take (dec62 l).1, (dec62 l).2 + 4 + (dec62 l).1, 0)

theorem crc_lt (l : List UInt8) : crcMore 0 l < 4294967296 := crcMore_lt l (by decide)

theorem frameOf_length (l : List UInt8) : (frameOf l).length = (Lib.uvarint l.length).length + l.length + 4 := by
  simp [frameOf, headOf, Lib.leBytes_length]
  omega

theorem len3 {n : Nat} (h : n ≤ 1048576) : (Lib.uvarint n).length ≤ 3 := Lib.uvarint_length 2 n (Nat.lt_of_le_of_lt h (by decide))

theorem open_dec {l : List UInt8} (h : isOpen l) : dec62 l = (0, 0) := by
  have e : dec64 l = (0, 0) := by
    unfold dec64
    rw [dec_miss 10 l (fun j _ hj => h.2 j hj)]
  unfold dec62
  rw [e]
  rfl

theorem dec62_head (x t : List UInt8) (h : x.length ≤ 1048576) : dec62 (Lib.uvarint x.length ++ t) = (x.length, (Lib.uvarint x.length).length) := dec62_uvarint _ _ (by omega)

theorem leBytes_leNat : ∀ (l : List UInt8), Lib.leBytes l.length (Lib.leNat l) = l
  | [] => rfl
  | c :: r => by
    have ih := leBytes_leNat r
    have hc := c.toNat_lt
    have e1 : (c.toNat + 256 * Lib.leNat r) % 256 = c.toNat := by omega
    have e2 : (c.toNat + 256 * Lib.leNat r) / 256 = Lib.leNat r := by omega
    simp only [List.length_cons, Lib.leNat, Lib.leBytes, e1, e2, ih]
    simp

/-- What was encoded is decoded, whatever stands behind it. -/
theorem decF_frame (x t : List UInt8) (h : x.length ≤ 1048576) : decF (frameOf x ++ t) = (x, (frameOf x).length, 0) := by
  have hd : dec62 (frameOf x ++ t) = (x.length, (Lib.uvarint x.length).length) := by
    have e : frameOf x ++ t = Lib.uvarint x.length ++ (x ++ Lib.leBytes 4 (crcMore 0 (headOf x)) ++ t) := by simp [frameOf, headOf]
    rw [e]
    exact dec62_head x _ h
  have hp := Lib.uvarint_pos x.length
  have ho : ¬ isOpen (frameOf x ++ t) := fun ho => by
    have := open_dec ho
    rw [hd, Prod.mk.injEq] at this
    omega
  have hl : (frameOf x ++ t).length = (Lib.uvarint x.length).length + x.length + 4 + t.length := by rw [List.length_append, frameOf_length]
  have hh : (headOf x).length = (Lib.uvarint x.length).length + x.length := by simp [headOf]
  have e1 : (frameOf x ++ t).take ((Lib.uvarint x.length).length + x.length) = headOf x := by
    rw [← hh, frameOf, List.append_assoc, List.take_left]
  have e2 : ((frameOf x ++ t).drop ((Lib.uvarint x.length).length + x.length)).take 4 = Lib.leBytes 4 (crcMore 0 (headOf x)) := by
    rw [← hh, frameOf, List.append_assoc, List.drop_left, List.take_append_of_le_length (by rw [Lib.leBytes_length]; exact Nat.le_refl _), List.take_of_length_le (by rw [Lib.leBytes_length]; exact Nat.le_refl _)]
  have e3 : ((frameOf x ++ t).drop (Lib.uvarint x.length).length).take x.length = x := by
    have e : frameOf x ++ t = Lib.uvarint x.length ++ (x ++ (Lib.leBytes 4 (crcMore 0 (headOf x)) ++ t)) := by simp [frameOf, headOf]
    rw [e, List.drop_left, List.take_left]
  unfold decF
  rw [if_neg ho]
  simp only [hd]
  rw [if_neg (by omega), if_neg (by omega), if_neg (by omega), if_neg (by rw [e1, e2, Lib.leNat_leBytes 4 _ (crc_lt _)]; simp), e3, frameOf_length]
  congr 2
  omega

/-- What is decoded is of a frame. -/
theorem decF_ok {l : List UInt8} (h : (decF l).2.2 = 0) :
    (decF l).1.length ≤ 1048576 ∧ (decF l).2.1 = (frameOf (decF l).1).length ∧ (decF l).2.1 ≤ l.length ∧ l.take (decF l).2.1 = frameOf (decF l).1 := by
  unfold decF at h ⊢
  by_cases c1 : isOpen l
  · rw [if_pos c1] at h; simp at h
  rw [if_neg c1] at h ⊢
  by_cases c2 : (dec62 l).2 = 0
  · rw [if_pos c2] at h; simp at h
  rw [if_neg c2] at h ⊢
  by_cases c3 : 1048576 < (dec62 l).1
  · rw [if_pos c3] at h; simp at h
  rw [if_neg c3] at h ⊢
  by_cases c4 : l.length < (dec62 l).2 + 4 + (dec62 l).1
  · rw [if_pos c4] at h; simp at h
  rw [if_neg c4] at h ⊢
  by_cases c5 : Lib.leNat ((l.drop ((dec62 l).2 + (dec62 l).1)).take 4) ≠ crcMore 0 (l.take ((dec62 l).2 + (dec62 l).1))
  · rw [if_pos c5] at h; simp at h
  rw [if_neg c5]
  clear h
  rcases dec62_cases l with hc | ⟨h1, h2, h3, h4⟩
  · rw [hc] at c2; simp at c2
  generalize (dec62 l).1 = n at *
  generalize (dec62 l).2 = k at *
  have hx : ((l.drop k).take n).length = n := by simp; omega
  have hk : (Lib.uvarint n).length = k := by rw [← h4]; simp; omega
  have hhead : headOf ((l.drop k).take n) = l.take (k + n) := by
    unfold headOf
    rw [hx, ← h4, List.take_add]
  have htail : (l.drop (k + n)).take 4 = Lib.leBytes 4 (crcMore 0 (l.take (k + n))) := by
    have e := leBytes_leNat ((l.drop (k + n)).take 4)
    have e4 : ((l.drop (k + n)).take 4).length = 4 := by simp; omega
    rw [e4] at e
    rw [← Decidable.not_not.1 c5, e]
  refine ⟨by show ((l.drop k).take n).length ≤ _; omega, ?_, by show k + 4 + n ≤ _; omega, ?_⟩
  · show k + 4 + n = _
    rw [frameOf_length, hx, hk]
    omega
  · show l.take (k + 4 + n) = frameOf ((l.drop k).take n)
    unfold frameOf
    rw [hhead, ← htail, show k + 4 + n = (k + n) + 4 by omega, List.take_add]

theorem decF_err {l : List UInt8} (h : (decF l).2.2 ≠ 0) : (decF l).1 = [] ∧ (decF l).2.1 = 0 := by
  unfold decF at h ⊢
  split
  · exact ⟨rfl, rfl⟩
  split
  · exact ⟨rfl, rfl⟩
  split
  · exact ⟨rfl, rfl⟩
  split
  · exact ⟨rfl, rfl⟩
  split
  · exact ⟨rfl, rfl⟩
  · rename_i c1 c2 c3 c4 c5
    rw [if_neg c1, if_neg c2, if_neg c3, if_neg c4, if_neg c5] at h
    simp at h

theorem decF_codes (l : List UInt8) : (decF l).2.2 < 6 := by
  unfold decF
  repeat' split
  all_goals simp

theorem decF_five {l : List UInt8} (h : (decF l).2.2 = 0) : 5 ≤ (decF l).2.1 := by
  obtain ⟨_, h2, _, _⟩ := decF_ok h
  rw [h2, frameOf_length]
  have := Lib.uvarint_pos (decF l).1.length
  omega

theorem decF_le (l : List UInt8) : (decF l).2.1 ≤ l.length := by
  by_cases h : (decF l).2.2 = 0
  · exact (decF_ok h).2.2.1
  · rw [(decF_err h).2]; omega

theorem decF_data_le (l : List UInt8) : (decF l).1.length ≤ l.length := by
  by_cases h : (decF l).2.2 = 0
  · obtain ⟨_, h2, h3, _⟩ := decF_ok h
    rw [h2, frameOf_length] at h3
    omega
  · rw [(decF_err h).1]; simp

/-- A frame that is cut off. -/
theorem decF_cut (x : List UInt8) (m : Nat) (h : x.length ≤ 1048576) (hm : m < (frameOf x).length) : decF ((frameOf x).take m) = ([], 0, 2) := by
  have h3 := len3 h
  by_cases hk : m < (Lib.uvarint x.length).length
  · have ho : isOpen ((frameOf x).take m) := by
      have e : (frameOf x).take m = (Lib.uvarint x.length).take m := by
        rw [frameOf, headOf, List.append_assoc, List.take_append_of_le_length (by omega)]
      rw [e]
      refine ⟨by simp; omega, fun j hj => ?_⟩
      have hj' : j < m := by simp at hj; omega
      have e2 : ((Lib.uvarint x.length).take m).getD j 0 = (Lib.uvarint x.length).getD j 0 := by simp [List.getD, hj']
      rw [e2]
      exact uvarint_open _ _ j (Nat.le_refl _) (by omega)
    unfold decF
    rw [if_pos ho]
  · have hlen : ((frameOf x).take m).length = m := by simp; omega
    have hd : dec62 ((frameOf x).take m) = (x.length, (Lib.uvarint x.length).length) := by
      have e : (frameOf x).take m = Lib.uvarint x.length ++ (x ++ Lib.leBytes 4 (crcMore 0 (headOf x))).take (m - (Lib.uvarint x.length).length) := by
        rw [frameOf, headOf, List.append_assoc, List.take_append, List.take_of_length_le (by omega)]
      rw [e]
      exact dec62_head x _ h
    have hp := Lib.uvarint_pos x.length
    have ho : ¬ isOpen ((frameOf x).take m) := fun ho => by
      have := open_dec ho
      rw [hd, Prod.mk.injEq] at this
      omega
    rw [frameOf_length] at hm
    unfold decF
    rw [if_neg ho]
    simp only [hd, hlen]
    rw [if_neg (by omega), if_neg (by omega), if_pos (by omega)]

/-- Whole frames with their sum have one sum all. -/
theorem frame_sum (x : List UInt8) : crcMore 0 (frameOf x) = ticks 32 4294967295 ^^^ 4294967295 := by
  unfold frameOf
  have hl := crc_lt (headOf x)
  rw [crcMore_append]
  generalize crcMore 0 (headOf x) = s at *
  unfold crcMore
  rw [crcReg_ticks, Lib.leBytes_length, Lib.leNat_leBytes 4 s hl]
  congr 2
  rw [Nat.xor_comm s, Nat.xor_assoc, Nat.xor_self, Nat.xor_zero]

/-- All whole frames, by a number of rounds. -/
def wholeG : Nat → List UInt8 → List (List UInt8) × Nat × Nat
  | 0, _ => ([], 0, 0)
  | f + 1, l => if l = [] then ([], 0, 0) else if (decF l).2.2 ≠ 0 then ([], 0, (decF l).2.2) else
      ((decF l).1 :: (wholeG f (l.drop (decF l).2.1)).1, (decF l).2.1 + (wholeG f (l.drop (decF l).2.1)).2.1, (wholeG f (l.drop (decF l).2.1)).2.2)

/-- All whole frames, how many bytes these have, and the error that ends them. -/
def wholeF (l : List UInt8) : List (List UInt8) × Nat × Nat := wholeG l.length l

theorem wholeG_more : ∀ (f g : Nat) (l : List UInt8), l.length ≤ f → l.length ≤ g → wholeG f l = wholeG g l
  | 0, g, l, h, _ => by
    have e : l = [] := List.eq_nil_of_length_eq_zero (by omega)
    subst e
    cases g <;> simp [wholeG]
  | f + 1, 0, l, _, h => by
    have e : l = [] := List.eq_nil_of_length_eq_zero (by omega)
    subst e
    simp [wholeG]
  | f + 1, g + 1, l, hf, hg => by
    unfold wholeG
    by_cases e : l = []
    · rw [if_pos e, if_pos e]
    rw [if_neg e, if_neg e]
    by_cases e2 : (decF l).2.2 ≠ 0
    · rw [if_pos e2, if_pos e2]
    rw [if_neg e2, if_neg e2]
    have h5 := decF_five (Decidable.not_not.1 e2)
    rw [wholeG_more f g (l.drop (decF l).2.1) (by simp; omega) (by simp; omega)]

theorem wholeF_nil : wholeF [] = ([], 0, 0) := rfl

theorem wholeF_stop {l : List UInt8} (h0 : l ≠ []) (h : (decF l).2.2 ≠ 0) : wholeF l = ([], 0, (decF l).2.2) := by
  unfold wholeF
  cases l with
  | nil => exact absurd rfl h0
  | cons c r =>
    rw [List.length_cons, wholeG, if_neg h0, if_pos h]

theorem wholeF_step {l : List UInt8} (h0 : l ≠ []) (h : (decF l).2.2 = 0) :
    wholeF l = ((decF l).1 :: (wholeF (l.drop (decF l).2.1)).1, (decF l).2.1 + (wholeF (l.drop (decF l).2.1)).2.1, (wholeF (l.drop (decF l).2.1)).2.2) := by
  have h5 := decF_five h
  unfold wholeF
  cases l with
  | nil => exact absurd rfl h0
  | cons c r =>
    rw [List.length_cons, wholeG, if_neg h0, if_neg (Decidable.not_not.2 h), wholeG_more r.length ((c :: r).drop (decF (c :: r)).2.1).length _ (by simp; omega) (Nat.le_refl _)]

/-- Frames, one behind the other. -/
def framesOf (L : List (List UInt8)) : List UInt8 := L.flatMap frameOf

/-- Where the frames end that are whole within so many bytes, and how many they are. -/
def wholes : List (List UInt8) → Nat → Nat × Nat
  | [], _ => (0, 0)
  | x :: L, m => if (frameOf x).length ≤ m then ((wholes L (m - (frameOf x).length)).1 + 1, (wholes L (m - (frameOf x).length)).2 + (frameOf x).length) else (0, 0)

theorem wholes_le : ∀ (L : List (List UInt8)) (m : Nat), (wholes L m).1 ≤ L.length ∧ (wholes L m).2 ≤ m
  | [], m => by simp [wholes]
  | x :: L, m => by
    have ih := wholes_le L (m - (frameOf x).length)
    unfold wholes
    split
    · simp; omega
    · simp

theorem wholeF_cut : ∀ (L : List (List UInt8)) (m : Nat), (∀ x ∈ L, x.length ≤ 1048576) → m ≤ (framesOf L).length →
    wholeF ((framesOf L).take m) = (L.take (wholes L m).1, (wholes L m).2, if (wholes L m).2 = m then 0 else 2)
  | [], m, _, hm => by
    have e : m = 0 := by simp [framesOf] at hm; omega
    subst e
    rfl
  | x :: L, m, hx, hm => by
    have hx1 := hx x (by simp)
    have hpos : 5 ≤ (frameOf x).length := by
      rw [frameOf_length]
      have := Lib.uvarint_pos x.length
      omega
    have eF : framesOf (x :: L) = frameOf x ++ framesOf L := by simp [framesOf]
    rw [eF] at hm ⊢
    rw [List.length_append] at hm
    by_cases hf : (frameOf x).length ≤ m
    · have et : (frameOf x ++ framesOf L).take m = frameOf x ++ (framesOf L).take (m - (frameOf x).length) := by
        rw [List.take_append, List.take_of_length_le hf]
      have ih := wholeF_cut L (m - (frameOf x).length) (fun y hy => hx y (by simp [hy])) (by omega)
      have hd := decF_frame x ((framesOf L).take (m - (frameOf x).length)) hx1
      have hne : frameOf x ++ (framesOf L).take (m - (frameOf x).length) ≠ [] := fun e => by
        have := congrArg List.length e
        rw [List.length_append, List.length_nil] at this
        omega
      rw [et, wholeF_step hne (by rw [hd]), hd]
      simp only [List.drop_left]
      have hw := (wholes_le L (m - (frameOf x).length)).2
      rw [ih, wholes, if_pos hf]
      simp only [List.take_succ_cons, Prod.mk.injEq, true_and]
      refine ⟨by omega, ?_⟩
      by_cases e : (wholes L (m - (frameOf x).length)).2 = m - (frameOf x).length
      · rw [if_pos e, if_pos (by omega)]
      · rw [if_neg e, if_neg (by omega)]
    · have et : (frameOf x ++ framesOf L).take m = (frameOf x).take m := by
        rw [List.take_append_of_le_length (by omega)]
      have hd := decF_cut x m hx1 (by omega)
      rw [et, wholes, if_neg hf]
      by_cases h0 : m = 0
      · subst h0
        rfl
      · have hne : (frameOf x).take m ≠ [] := fun e => by
          have := congrArg List.length e
          rw [List.length_take, List.length_nil] at this
          omega
        rw [wholeF_stop hne (by rw [hd]; decide), hd]
        simp only [List.take_zero, Prod.mk.injEq, true_and]
        rw [if_neg (by omega)]

/-- What Size answers. -/
def sizeF (n : Int) : Nat := if 0 ≤ n ∧ n ≤ 1048576 then (Lib.uvarint n.toNat).length + 4 + n.toNat else 0

/-- Where the search for the whole frames ends. -/
theorem wholes_at : ∀ (L : List (List UInt8)) (m k : Nat), k ≤ L.length → (framesOf (L.take k)).length ≤ m → (k = L.length ∨ m < (framesOf (L.take (k + 1))).length) → wholes L m = (k, (framesOf (L.take k)).length)
  | [], m, k, hk, _, _ => by
    have e : k = 0 := by simpa using hk
    subst e
    rfl
  | x :: L, m, 0, _, h1, h2 => by
    have e : (framesOf ((x :: L).take 1)).length = (frameOf x).length := by simp [framesOf]
    rcases h2 with h2 | h2
    · simp at h2
    · rw [e] at h2
      rw [wholes, if_neg (by omega)]
      rfl
  | x :: L, m, k + 1, hk, h1, h2 => by
    have ef : ∀ j, (framesOf ((x :: L).take (j + 1))).length = (frameOf x).length + (framesOf (L.take j)).length := by
      intro j
      simp [framesOf]
    rw [ef] at h1 h2
    have ih := wholes_at L (m - (frameOf x).length) k (by simpa using hk) (by omega) (by
      rcases h2 with h2 | h2
      · left; simpa using h2
      · right; omega)
    rw [wholes, if_pos (by omega), ih, ef]
    simp
    omega

end Go.Proofs.YtddhcohjmgdajabDoor

/- Slices of slices of bytes: what one reads ('RdL'), what a call makes ('OwnL'), and that one more is put behind them. -/
namespace Go.Proofs.YtddhcohjmgdajabDoor
open Go.RowKit

/-- The slice value v reads as these lists of bytes. -/
def RdL (w : World) (v : Value) (L : List (List UInt8)) : Prop :=
  ∃ ao cap, v = .slice ao L.length cap ∧ L.length ≤ cap ∧ cap ≤ maxLen ∧ (ao = none → cap = 0) ∧
    (L = [] ∨ ∃ b off, ao = some ⟨b, off, none⟩ ∧ ∀ j, j < L.length → ∃ x, w.cell? ⟨b, off + j, none⟩ = some x ∧ Rd w x (L.getD j []))

/-- The slice value v lies in a row of its own, from block B on, of slices that lie each in a row of its own. -/
def OwnL (w : World) (B : Nat) (v : Value) (L : List (List UInt8)) : Prop :=
  ∃ xs : List Value, w.ownsRow B 26 1 v L.length xs ∧ ∀ j, j < L.length → ∃ x, xs[j]? = some x ∧ Own w B x (L.getD j [])

theorem RdL.nil (w : World) : RdL w (.slice none 0 0) [] := ⟨none, 0, rfl, Nat.le_refl _, Nat.zero_le _, fun _ => rfl, .inl rfl⟩

theorem OwnL.nil (w : World) (B : Nat) : OwnL w B (.slice none 0 0) [] := ⟨[], World.ownsRow_nil w B 26 1, fun j hj => by simp at hj⟩

theorem RdL.below {w w' : World} {v : Value} {L : List (List UInt8)} (h : RdL w v L) {B : Nat} (hb : Below B w w') (hB : w.heap.size ≤ B) : RdL w' v L := by
  obtain ⟨ao, cap, h1, h2, h3, hn, h4⟩ := h
  refine ⟨ao, cap, h1, h2, h3, hn, ?_⟩
  rcases h4 with h4 | ⟨b, off, h5, h6⟩
  · exact .inl h4
  · refine .inr ⟨b, off, h5, fun j hj => ?_⟩
    obtain ⟨x, hc, hr⟩ := h6 j hj
    have hlt : b < w.heap.size := World.block_lt_of_cell? w ⟨b, off + j, none⟩ hc
    refine ⟨x, ?_, hr.below hb hB⟩
    rw [hb.cell (p := ⟨b, off + j, none⟩) (by exact Nat.lt_of_lt_of_le hlt hB)]
    exact hc

theorem RdL.front {w : World} {ao : Option Addr} {n cap : Nat} {L : List (List UInt8)} (h : RdL w (.slice ao n cap) L) (k : Nat) (hk : k ≤ L.length) : RdL w (.slice ao k cap) (L.take k) := by
  obtain ⟨ao', cap', hv, h1, h2, h3, h4⟩ := h
  simp only [Value.slice.injEq] at hv
  obtain ⟨rfl, _, rfl⟩ := hv
  have hlen : (L.take k).length = k := by simp; omega
  refine ⟨ao, cap, by rw [hlen], by omega, h2, h3, ?_⟩
  rcases h4 with h4 | ⟨b, off, h5, h6⟩
  · exact .inl (by rw [h4]; simp)
  · refine .inr ⟨b, off, h5, fun j hj => ?_⟩
    have hj2 : j < k := by omega
    obtain ⟨x, hc, hr⟩ := h6 j (by omega)
    refine ⟨x, hc, ?_⟩
    have e : (L.take k).getD j [] = L.getD j [] := by simp [List.getD, hj2]
    rw [e]
    exact hr

theorem OwnL.rd {w : World} {B : Nat} {v : Value} {L : List (List UInt8)} (h : OwnL w B v L) : RdL w v L := by
  obtain ⟨xs, h1, h2⟩ := h
  rcases h1.2 with ⟨hv, hn⟩ | ⟨g, cap, cur, hv, hb, hg, hnc, hcm, hcs, htake⟩
  · exact ⟨none, 0, by rw [hv, hn], by omega, Nat.zero_le _, fun _ => rfl, .inl (List.eq_nil_of_length_eq_zero hn)⟩
  · refine ⟨some ⟨g, 0, none⟩, cap, hv, hnc, hcm, (fun e => by cases e), .inr ⟨g, 0, rfl, fun j hj => ?_⟩⟩
    obtain ⟨x, hx, ho⟩ := h2 j hj
    have := World.ownsRow.cells h1 (g := g) (by rw [hv]; rfl) j _ hx
    rw [Addr.add_lit] at this
    exact ⟨x, this, ho.rd⟩

theorem OwnL.mono {w : World} {B B' : Nat} {v : Value} {L : List (List UInt8)} (h : OwnL w B v L) (hB : B' ≤ B) : OwnL w B' v L := by
  obtain ⟨xs, ⟨h1, h2⟩, h3⟩ := h
  refine ⟨xs, ⟨h1, ?_⟩, fun j hj => ?_⟩
  · rcases h2 with h2 | ⟨g, cap, cur, hv, hb, r⟩
    · exact .inl h2
    · exact .inr ⟨g, cap, cur, hv, by omega, r⟩
  · obtain ⟨x, hx, ho⟩ := h3 j hj
    exact ⟨x, hx, ho.mono hB⟩

theorem OwnL.below {w w' : World} {B B' : Nat} {v : Value} {L : List (List UInt8)} (h : OwnL w B v L) (hb : Below B' w w') (hB : w.heap.size ≤ B') : OwnL w' B v L := by
  obtain ⟨xs, ⟨h1, h2⟩, h3⟩ := h
  refine ⟨xs, ⟨h1, ?_⟩, fun j hj => ?_⟩
  · rcases h2 with h2 | ⟨g, cap, cur, hv, hbg, hg, r⟩
    · exact .inl h2
    · have hlt : g < w.heap.size := (Array.getElem?_eq_some_iff.1 hg).1
      exact .inr ⟨g, cap, cur, hv, hbg, by rw [hb.block g (by omega)]; exact hg, r⟩
  · obtain ⟨x, hx, ho⟩ := h3 j hj
    exact ⟨x, hx, ho.below hb hB⟩

theorem info_bytes : (Tryd.prog.info? 26).map (fun i => (i.zero, i.size, i.bytes)) = some (some (.slice none 0 0), 1, 24) := by kernel_rfl

/-- A row of bytes is no row of slices. -/
theorem own_apart {w : World} {B B' : Nat} {v x : Value} {n : Nat} {xs : List Value} {l : List UInt8} (h1 : w.ownsRow B 26 1 v n xs) (h2 : Own w B' x l) : x.ownBlock = none ∨ x.ownBlock ≠ v.ownBlock := by
  rcases h2.2 with ⟨hv, _⟩ | ⟨g, cap, cur, hv, _, hg, _⟩
  · exact .inl (by rw [hv]; rfl)
  · right
    rcases h1.2 with ⟨hv', _⟩ | ⟨g', cap', cur', hv', _, hg', _⟩
    · rw [hv, hv']
      exact fun e => by cases e
    · rw [hv, hv']
      intro e
      have e' : g = g' := by simpa [Value.ownBlock] using e
      rw [e', hg'] at hg
      have h3 : (26 : Nat) = 5 := by
        injection hg with hg
        injection hg
      exact absurd h3 (by decide)

theorem run_append_snoc (w : World) (ty : TypeId) (B : Nat) (v : Value) (L : List (List UInt8)) (h : OwnL w B v L) (x : Value) (d : List UInt8) (hx : Own w B x d) (hlim : L.length ≤ 1000000) (hbase : B ≤ w.heap.size) :
    ∃ v' w', (Builtin.append_ #[45, 45] ty #[v, .slice (some ⟨w.heap.size, 0, none⟩) 1 1]).run Tryd.prog (w.alloc (.cells #[x] 26)) = .ok v' w' ∧ OwnL w' B v' (L ++ [d]) ∧ Below B w w' := by
  obtain ⟨i0, hi, hz0, hz1, hz2⟩ := info_parts info_bytes
  obtain ⟨xs, h1, h3⟩ := h
  have hx1 : x.oneCell' = true := by
    rcases hx.2 with ⟨hv, _⟩ | ⟨g, cap, cur, hv, _⟩ <;> rw [hv] <;> rfl
  obtain ⟨v', w', hrun, ho, hg, _⟩ := run_append_own (P := Tryd.prog) (w.alloc (.cells #[x] 26)) B 45 ty 26 i0 (.slice none 0 0) 1 24 Tryd.underlying45 hi hz0 hz1 hz2 rfl (by decide) v L.length xs (h1.alloc _)
    ⟨w.heap.size, 0, none⟩ 1 1 [x] rfl (fun j u hj => by
      match j, hj with
      | 0, hj => simp at hj; subst hj; simp [Addr.add]) (fun u hu => by simp at hu; subst hu; exact hx1) (by unfold maxLen; omega) (by omega) (by simp; omega)
  have hl : xs.length = L.length := by rw [h1.1, Nat.mul_one]
  refine ⟨v', w', hrun, ⟨xs ++ [x], by rw [List.length_append]; exact ho, fun j hj => ?_⟩, ?_⟩
  · by_cases hj' : j < L.length
    · obtain ⟨y, hy, hoy⟩ := h3 j hj'
      refine ⟨y, by rw [List.getElem?_append_left (by omega)]; exact hy, ?_⟩
      have e : (L ++ [d]).getD j [] = L.getD j [] := by simp [List.getD, List.getElem?_append_left hj']
      rw [e]
      exact World.ownsRow.kept (World.ownsRow.alloc hoy _) hg (own_apart h1 hoy)
    · have ej : j = L.length := by simp at hj; omega
      subst ej
      refine ⟨x, by rw [List.getElem?_append_right (by omega), hl]; simp, ?_⟩
      have e : (L ++ [d]).getD L.length [] = d := by simp [List.getD]
      rw [e]
      exact World.ownsRow.kept (World.ownsRow.alloc hx _) hg (own_apart h1 hx)
  · exact ((Below.refl _ _).alloc hbase _).grown hg (by simp; omega) (fun k hk => (World.ownsRow.lt h1 k hk).1)

theorem wpList_append_snoc (w : World) {ops : Array Oper} {rest : List Oper} {o : Oper} {a : Act} {Q : Exit → Act → World → Prop} (hgd : o.guard = none) (s x : Operand)
    (ho : o.op = .call { callee := .builtin .append, args := #[s, x], argTypes := #[45, 45] })
    (B : Nat) (v : Value) (L : List (List UInt8)) (hs : a.eval s = v) (hown : OwnL w B v L) (y : Value) (d : List UInt8) (hx : a.eval x = .slice (some ⟨w.heap.size, 0, none⟩) 1 1) (hy : Own w B y d)
    (hlim : L.length ≤ 1000000) (hbase : B ≤ w.heap.size)
    (h : ∀ v' w', OwnL w' B v' (L ++ [d]) → Below B w w' → wpList Tryd.prog ops Q rest (a.put o.dst v') w') : wpList Tryd.prog ops Q (o :: rest) a (w.alloc (.cells #[y] 26)) :=
  wpList_plain hgd fun _ hK => by
    obtain ⟨v', w', hrun, h2, h3⟩ := run_append_snoc w o.type B v L hown y d hy hlim hbase
    unfold Oper.wp execOp
    simp only [ho, resolve, invoke, builtin, Sem.run_bind, Sem.run_pure, Result.andThen_ok, List.map_toArray, List.map_cons, List.map_nil, hs, hx, hrun]
    exact hK _ _ (h v' w' h2 h3)

end Go.Proofs.YtddhcohjmgdajabDoor

/- Contracts of the document's answer for layer crc: Entry, More, Sum. -/
namespace Go.Proofs.YtddhcohjmgdajabDoor
open Go.RowKit

theorem xor_u32 (a b : Nat) (ha : a < 4294967296) (hb : b < 4294967296) : bits .xor .u32 (a : Int) (b : Int) = ((a ^^^ b : Nat) : Int) := by
  have hx : a ^^^ b < 2 ^ 32 := Nat.xor_lt_two_pow (by omega) (by omega)
  have h1 : (BitVec.ofInt 32 (a : Int)).toNat = a := by
    rw [BitVec.ofInt_natCast, BitVec.toNat_ofNat]; exact Nat.mod_eq_of_lt (by omega)
  have h2 : (BitVec.ofInt 32 (b : Int)).toNat = b := by
    rw [BitVec.ofInt_natCast, BitVec.toNat_ofNat]; exact Nat.mod_eq_of_lt (by omega)
  show IntKind.u32.wrap ((BitVec.ofInt 32 (a : Int) ^^^ BitVec.ofInt 32 (b : Int)).toNat : Int) = _
  rw [BitVec.toNat_xor, h1, h2, IntKind.wrap_u32]
  omega

theorem xor_u8 (a b : Nat) (ha : a < 256) (hb : b < 256) : bits .xor .u8 (a : Int) (b : Int) = ((a ^^^ b : Nat) : Int) := by
  have hx : a ^^^ b < 2 ^ 8 := Nat.xor_lt_two_pow (by omega) (by omega)
  have h1 : (BitVec.ofInt 8 (a : Int)).toNat = a := by
    rw [BitVec.ofInt_natCast, BitVec.toNat_ofNat]; exact Nat.mod_eq_of_lt (by omega)
  have h2 : (BitVec.ofInt 8 (b : Int)).toNat = b := by
    rw [BitVec.ofInt_natCast, BitVec.toNat_ofNat]; exact Nat.mod_eq_of_lt (by omega)
  show IntKind.u8.wrap ((BitVec.ofInt 8 (a : Int) ^^^ BitVec.ofInt 8 (b : Int)).toNat : Int) = _
  rw [BitVec.toNat_xor, h1, h2, IntKind.wrap_u8]
  omega

theorem ticks_succ (k x : Nat) : ticks (k + 1) x = tick (ticks k x) := by
  rw [ticks_add k 1]
  rfl

theorem ticks32 (k : Nat) {x : Nat} (h : x < 4294967296) : ticks k x < 4294967296 := by
  have := ticks_lt k (Nat.le_refl 32) (by omega : x < 2 ^ 32)
  omega

theorem crcReg_snoc (l : List UInt8) (x k : Nat) (h : k < l.length) : crcReg x (l.take (k + 1)) = crcByte (crcReg x (l.take k)) (l.getD k 0).toNat := by
  rw [take_snoc l k h, crcReg_append]
  rfl

theorem low_byte (x c : Nat) (hc : c < 256) : (x ^^^ c) % 256 = x % 256 ^^^ c := by
  have h := @Nat.xor_mod_two_pow x c 8
  have e : c % 2 ^ 8 = c := Nat.mod_eq_of_lt (by omega)
  rw [e] at h
  exact h

theorem byte_lt (x c : Nat) (hc : c < 256) : x % 256 ^^^ c < 256 := by
  have : x % 256 ^^^ c < 2 ^ 8 := Nat.xor_lt_two_pow (by omega) (by omega)
  omega

theorem entry_lt (c : Nat) (h : c < 256) : entry c < 4294967296 := ticks32 8 (by omega)

theorem not_u32 (s : Nat) (h : s < 4294967296) : bits .xor .u32 IntKind.u32.max (s : Int) = ((s ^^^ 4294967295 : Nat) : Int) := by
  have e : IntKind.u32.max = ((4294967295 : Nat) : Int) := by decide
  rw [e, xor_u32 _ _ (by decide) h, Nat.xor_comm]

end Go.Proofs.YtddhcohjmgdajabDoor

/- Contracts of ferrymanref03: Encode, Size, open, Decode. -/
namespace Go.Proofs.YtddhcohjmgdajabDoor
open Go.RowKit

/-- What Encode answers. -/
def encF (l : List UInt8) : List UInt8 × Nat := if l.length ≤ 1048576 then (frameOf l, 0) else ([], 5)

theorem ret_tup2 {v : Value} {k : IntKind} {a b : Int} (h : a = b) : Ending.returned (.tuple #[v, .int k a]) = .returned (.tuple #[v, .int k b]) := by rw [h]

theorem ret_tup3 {v : Value} {k k' : IntKind} {a b c d : Int} (h : a = b) (h' : c = d) : Ending.returned (.tuple #[v, .int k a, .int k' c]) = .returned (.tuple #[v, .int k b, .int k' d]) := by rw [h, h']

end Go.Proofs.YtddhcohjmgdajabDoor

/- Contracts of ferrymanref03: Decode, Whole, All. -/
namespace Go.Proofs.YtddhcohjmgdajabDoor
open Go.RowKit

theorem decF_1 {l : List UInt8} (h : isOpen l) : decF l = ([], 0, 2) := by unfold decF; rw [if_pos h]

theorem decF_2 {l : List UInt8} (h : ¬ isOpen l) (h2 : (dec62 l).2 = 0) : decF l = ([], 0, 3) := by unfold decF; rw [if_neg h, if_pos h2]

theorem decF_3 {l : List UInt8} (h : ¬ isOpen l) (h2 : (dec62 l).2 ≠ 0) (h3 : 1048576 < (dec62 l).1) : decF l = ([], 0, 5) := by unfold decF; rw [if_neg h, if_neg h2, if_pos h3]

theorem decF_4 {l : List UInt8} (h : ¬ isOpen l) (h2 : (dec62 l).2 ≠ 0) (h3 : ¬ 1048576 < (dec62 l).1) (h4 : l.length < (dec62 l).2 + 4 + (dec62 l).1) : decF l = ([], 0, 2) := by
  unfold decF; rw [if_neg h, if_neg h2, if_neg h3, if_pos h4]

theorem decF_5 {l : List UInt8} (h : ¬ isOpen l) (h2 : (dec62 l).2 ≠ 0) (h3 : ¬ 1048576 < (dec62 l).1) (h4 : ¬ l.length < (dec62 l).2 + 4 + (dec62 l).1)
    (h5 : Lib.leNat ((l.drop ((dec62 l).2 + (dec62 l).1)).take 4) ≠ crcMore 0 (l.take ((dec62 l).2 + (dec62 l).1))) : decF l = ([], 0, 4) := by
  unfold decF; rw [if_neg h, if_neg h2, if_neg h3, if_neg h4, if_pos h5]

theorem decF_6 {l : List UInt8} (h : ¬ isOpen l) (h2 : (dec62 l).2 ≠ 0) (h3 : ¬ 1048576 < (dec62 l).1) (h4 : ¬ l.length < (dec62 l).2 + 4 + (dec62 l).1)
    (h5 : Lib.leNat ((l.drop ((dec62 l).2 + (dec62 l).1)).take 4) = crcMore 0 (l.take ((dec62 l).2 + (dec62 l).1))) : decF l = ((l.drop (dec62 l).2).take (dec62 l).1, (dec62 l).2 + 4 + (dec62 l).1, 0) := by
  unfold decF; rw [if_neg h, if_neg h2, if_neg h3, if_neg h4, if_neg (by rw [h5]; simp)]

theorem dec62_nine (l : List UInt8) : (dec62 l).2 ≤ 9 := by
  rcases dec62_cases l with h | ⟨h1, h2, h3, h4⟩
  · rw [h]; decide
  · have h5 : (Lib.uvarint (dec62 l).1).length ≤ 9 := Lib.uvarint_length 8 _ (Nat.lt_of_lt_of_le h1 (by decide))
    rw [← h4, List.length_take] at h5
    omega

/-- What Decode's answer is, of which value. -/
def Decoded (w : World) (l : List UInt8) (e : Ending) (w' : World) : Prop :=
  ∃ v', e = .returned (.tuple #[v', .int .i64 ((decF l).2.1 : Nat), .int .i64 ((decF l).2.2 : Nat)]) ∧ Own w' w.heap.size v' (decF l).1 ∧ Below w.heap.size w w'

theorem Decoded.refused {w : World} {l : List UInt8} {c : Nat} (h : decF l = ([], 0, c)) : Decoded w l (.returned (.tuple #[.slice none 0 0, .int .i64 0, .int .i64 (c : Int)])) w := by
  refine ⟨.slice none 0 0, ?_, ?_, Below.refl _ _⟩
  · rw [h]; rfl
  · rw [h]; exact Own.nil _ _

end Go.Proofs.YtddhcohjmgdajabDoor

/- Contracts of ferrymanref03: Whole, All, Same. -/
namespace Go.Proofs.YtddhcohjmgdajabDoor
open Go.RowKit

/-- So many bytes are whole frames, whose data are L, and what is behind them tells the rest. -/
def Upto (l : List UInt8) (A : Nat) (L : List (List UInt8)) : Prop :=
  wholeF l = (L ++ (wholeF (l.drop A)).1, A + (wholeF (l.drop A)).2.1, (wholeF (l.drop A)).2.2) ∧ 5 * L.length ≤ A ∧ A ≤ l.length

theorem Upto.start (l : List UInt8) : Upto l 0 [] := ⟨by simp, by simp, by omega⟩

theorem Upto.stop {l : List UInt8} {A : Nat} {L : List (List UInt8)} (h : Upto l A L) (hA : A < l.length) (he : (decF (l.drop A)).2.2 ≠ 0) : wholeF l = (L, A, (decF (l.drop A)).2.2) := by
  have hne : l.drop A ≠ [] := fun e => by
    have := congrArg List.length e
    rw [List.length_drop, List.length_nil] at this
    omega
  rw [h.1, wholeF_stop hne he]
  simp

theorem Upto.whole {l : List UInt8} {A : Nat} {L : List (List UInt8)} (h : Upto l A L) (hA : ¬ A < l.length) : wholeF l = (L, A, 0) := by
  have e : l.drop A = [] := List.drop_of_length_le (by omega)
  rw [h.1, e, wholeF_nil]
  simp

theorem Upto.step {l : List UInt8} {A : Nat} {L : List (List UInt8)} (h : Upto l A L) (hA : A < l.length) (he : (decF (l.drop A)).2.2 = 0) : Upto l (A + (decF (l.drop A)).2.1) (L ++ [(decF (l.drop A)).1]) := by
  have hne : l.drop A ≠ [] := fun e => by
    have := congrArg List.length e
    rw [List.length_drop, List.length_nil] at this
    omega
  have h5 := decF_five he
  have hle := decF_le (l.drop A)
  rw [List.length_drop] at hle
  refine ⟨?_, ?_, by omega⟩
  · rw [h.1, wholeF_step hne he, List.drop_drop]
    simp [Nat.add_assoc]
  · have := h.2.1
    simp
    omega

/-- What All answers. -/
def allF (l : List UInt8) : List (List UInt8) × Nat := if (wholeF l).2.2 = 0 then ((wholeF l).1, 0) else ([], (wholeF l).2.2)

end Go.Proofs.YtddhcohjmgdajabDoor

/- Contract of ferrymanref03.Same. -/
namespace Go.Proofs.YtddhcohjmgdajabDoor
open Go.RowKit

theorem getD_ext {α : Type} (d : α) (A B : List α) (hl : A.length = B.length) (h : ∀ j, j < A.length → A.getD j d = B.getD j d) : A = B := by
  apply List.ext_getElem hl
  intro j h1 h2
  have := h j h1
  simpa [List.getD, h1, h2] using this

end Go.Proofs.YtddhcohjmgdajabDoor

/- append of bytes that tells which row alone it may change. -/
namespace Go.Proofs.YtddhcohjmgdajabDoor
open Go.RowKit

/-- append of bytes onto bytes of the call's own, telling which row alone it may change. -/
theorem run_append_rdg (w : World) (ty : TypeId) (B : Nat) (v : Value) (l0 : List UInt8) (hown : Own w B v l0) (vx : Value) (l : List UInt8) (hr : Rd w vx l)
    (hlim : l0.length + l.length ≤ 70368744177664) (hbase : B ≤ w.heap.size) :
    ∃ v' w', (Builtin.append_ #[26, 26] ty #[v, vx]).run Tryd.prog w = .ok v' w' ∧ Own w' B v' (l0 ++ l) ∧ w.grownBy w' v.ownBlock := by
  obtain ⟨i0, hi, hz0, hz1, hz2⟩ := info_parts info8
  obtain ⟨ao, cap, rfl, hlc, hcm, hn0, hao⟩ := hr
  cases ao with
  | none =>
    have hc := hn0 rfl
    subst hc
    have hl : l = [] := List.eq_nil_of_length_eq_zero (by omega)
    subst hl
    have hrun := run_append_owned_none (P := Tryd.prog) w B 26 ty 5 i0 1 Tryd.underlying26 hi v l0.length (Lib.byteCells l0) hown
    exact ⟨v, w, hrun, by rw [List.append_nil]; exact hown, ⟨rfl, rfl, rfl, Nat.le_refl _, fun _ _ _ => rfl⟩⟩
  | some a =>
    obtain ⟨v', w', hrun, ho, hg, _⟩ := run_append_own (P := Tryd.prog) w B 26 ty 5 i0 (.int .u8 0) 1 1 Tryd.underlying26 hi hz0 hz1 hz2 rfl (by decide) v l0.length (Lib.byteCells l0) hown a l.length cap (Lib.byteCells l)
      (by rw [byteCells_length, Nat.mul_one]) (Rd.cells hao a rfl) (byteCells_one l) (by unfold maxLen; omega) (by omega) hbase
    exact ⟨v', w', hrun, Own.mk' ho (by simp) (by simp [Lib.byteCells]), hg⟩

theorem wpList_append_rdg (w : World) {ops : Array Oper} {rest : List Oper} {o : Oper} {a : Act} {Q : Exit → Act → World → Prop} (hgd : o.guard = none) (s x : Operand)
    (ho : o.op = .call { callee := .builtin .append, args := #[s, x], argTypes := #[26, 26] })
    (B : Nat) (v : Value) (l0 : List UInt8) (hs : a.eval s = v) (hown : Own w B v l0) (vx : Value) (l : List UInt8) (hx : a.eval x = vx) (hr : Rd w vx l)
    (hlim : l0.length + l.length ≤ 70368744177664) (hbase : B ≤ w.heap.size)
    (h : ∀ v' w', Own w' B v' (l0 ++ l) → w.grownBy w' v.ownBlock → wpList Tryd.prog ops Q rest (a.put o.dst v') w') : wpList Tryd.prog ops Q (o :: rest) a w :=
  wpList_plain hgd fun _ hK => by
    obtain ⟨v', w', hrun, h2, h3⟩ := run_append_rdg w o.type B v l0 hown vx l hr hlim hbase
    unfold Oper.wp execOp
    simp only [ho, resolve, invoke, builtin, Sem.run_bind, Sem.run_pure, Result.andThen_ok, List.map_toArray, List.map_cons, List.map_nil, hs, hx, hrun]
    exact hK _ _ (h v' w' h2 h3)

end Go.Proofs.YtddhcohjmgdajabDoor

/- More of rows: two rows of one call kept apart; a cut of a slice of slices; a slice of slices that came in. -/
namespace Go.Proofs.YtddhcohjmgdajabDoor
open Go.RowKit Go.ChangeShapes

/-- Rows of two types lie apart. -/
theorem rows_apart {w : World} {B B' : Nat} {e1 e2 : TypeId} {v x : Value} {n m : Nat} {xs ys : List Value} (hne : e1 ≠ e2) (h1 : w.ownsRow B e1 1 v n xs) (h2 : w.ownsRow B' e2 1 x m ys) : x.ownBlock = none ∨ x.ownBlock ≠ v.ownBlock := by
  rcases h2.2 with ⟨hv, _⟩ | ⟨g, cap, cur, hv, _, hg, _⟩
  · exact .inl (by rw [hv]; rfl)
  · right
    rcases h1.2 with ⟨hv', _⟩ | ⟨g', cap', cur', hv', _, hg', _⟩
    · rw [hv, hv']
      exact fun e => by cases e
    · rw [hv, hv']
      intro e
      have e' : g = g' := by simpa [Value.ownBlock] using e
      rw [e', hg'] at hg
      have h3 : e1 = e2 := by
        injection hg with hg
        injection hg
      exact hne h3

theorem elem_rows : Tryd.prog.elem 45 = 26 := by kernel_rfl

theorem size_bytes (w : World) : (sizeOf 26).run Tryd.prog w = .ok 1 w := by
  obtain ⟨i0, hi, _, hz1, _⟩ := info_parts info_bytes
  simp [sizeOf, typeInfo, hi, hz1]

theorem under_rows : Tryd.prog.underlying 45 = some (.slice (Tryd.prog.elem 45)) := by rw [elem_rows]; exact Tryd.underlying45

theorem run_cutL_h (w : World) (v : Value) (L : List (List UInt8)) (hr : RdL w v L) (k : IntKind) (j : Int) (h0 : 0 ≤ j) (h2 : j ≤ L.length) :
    ∃ v', (Instr.sliceAt 45 v none (some (.int k j)) none).run Tryd.prog w = .ok v' w ∧ RdL w v' (L.take j.toNat) := by
  have h := hr
  obtain ⟨ao, cap, rfl, hlc, _⟩ := hr
  refine ⟨.slice ao j.toNat cap, ?_, h.front j.toNat (by omega)⟩
  rw [run_sliceAt_slice w 45 _ _ _ _ under_rows, run_slice_h w 45 ao L.length cap under_rows k j h0 (by omega), elem_rows, size_bytes]
  show Result.ok (sliced ao 0 j.toNat cap 1) w = _
  unfold sliced
  have e : (if cap = 0 then ao else ao.map (·.add (0 * 1))) = ao := by
    split
    · rfl
    · cases ao <;> simp [Addr.add]
  rw [e, Nat.sub_zero, Nat.sub_zero]

theorem wpList_cutL (w : World) {ops : Array Oper} {rest : List Oper} {o : Oper} {a : Act} {Q : Exit → Act → World → Prop} (hgd : o.guard = none) (x : Operand) (lo hi mx : Option Operand)
    (ho : o.op = .slice 45 x lo hi mx) (L : List (List UInt8))
    (hrun : ∃ v', (Instr.sliceAt 45 (a.eval x) (lo.map a.eval) (hi.map a.eval) (mx.map a.eval)).run Tryd.prog w = .ok v' w ∧ RdL w v' L)
    (h : ∀ v', RdL w v' L → wpList Tryd.prog ops Q rest (a.put o.dst v') w) : wpList Tryd.prog ops Q (o :: rest) a w :=
  wpList_plain hgd fun _ hK => by
    obtain ⟨v', hrun, hr⟩ := hrun
    unfold Oper.wp execOp
    simp only [ho, hrun, Sem.run_bind, Sem.run_pure, Result.andThen_ok]
    exact hK _ _ (h v' hr)

theorem list_of {α : Type} (d : α) (P : Nat → α → Prop) : ∀ n : Nat, (∀ i, i < n → ∃ x, P i x) → ∃ L : List α, L.length = n ∧ ∀ i, i < n → P i (L.getD i d)
  | 0, _ => ⟨[], rfl, fun i hi => by omega⟩
  | n + 1, h => by
    obtain ⟨L, h1, h2⟩ := list_of d P n (fun i hi => h i (by omega))
    obtain ⟨x, hx⟩ := h n (by omega)
    refine ⟨L ++ [x], by simp [h1], fun i hi => ?_⟩
    by_cases e : i = n
    · subst e
      have e2 : (L ++ [x]).getD i d = x := by simp [List.getD, ← h1]
      rw [e2]
      exact hx
    · have e2 : (L ++ [x]).getD i d = L.getD i d := by
        simp [List.getD, List.getElem?_append_left (show i < L.length by omega)]
      rw [e2]
      exact h2 i (by omega)

/-- A slice of slices of bytes that came in, opened. -/
theorem open_rows {H : Type} {enc : TypeId × Value → H} {w : World} {held : Bool} {fuel : Nat} {a : Option Addr} {len cap : Nat} {x : DataW H × List MemPlace} (h : DataW.trod enc Tryd.prog w 0 (fun _ => true) held fuel 45 [.slice a len cap] = some x) :
    ∃ L, RdL w (.slice a len cap) L := by
  have hc1 : Tryd.prog.cellsOf 26 = 1 := by kernel_rfl
  have hc2 : Tryd.prog.cellsOf 5 = 1 := by kernel_rfl
  rcases DataW.trod_slice Tryd.underlying45 h with h0 | ⟨ad, len', cap', elems, rest, n, _, hcs, _, hb, hl, hm, hlen, hel, _⟩
  · have := h0.1
    simp at this
    obtain ⟨rfl, rfl, rfl⟩ := this
    exact ⟨[], RdL.nil _⟩
  · simp at hcs
    obtain ⟨rfl, rfl, rfl⟩ := hcs
    have each : ∀ i, i < len → ∃ l : List UInt8, ∃ y, w.cell? (ad.add i) = some y ∧ Rd w y l := by
      intro i hi
      have he := hel i hi
      rw [List.getElem?_eq_getElem (by omega), hc1, Nat.mul_one, Option.bind_eq_some_iff] at he
      obtain ⟨cs, hcs, hy⟩ := he
      rcases open_ints Tryd.underlying26 Tryd.underlying5 hc2 hy with ⟨rfl, _⟩ | ⟨x, l, c, zs, rfl, _, hl, hm, hz, _, hcell, hwz⟩
      · exact ⟨[], _, cell_of_cells?_one hcs, Rd.nil _⟩
      · exact ⟨_, _, cell_of_cells?_one hcs, Rd.ofRow hl hm (by simpa using hz) hcell hwz⟩
    obtain ⟨L, h1, h2⟩ := list_of [] _ len each
    refine ⟨L, some ad, cap, by rw [h1], by omega, hm, (fun e => by cases e), ?_⟩
    by_cases h0 : len = 0
    · exact .inl (List.eq_nil_of_length_eq_zero (by omega))
    · obtain ⟨b, off, spot⟩ := ad
      obtain ⟨y, hy, _⟩ := h2 0 (by omega)
      have hspot : spot = none := by simpa [Addr.add] using World.cell?_spot hy
      subst hspot
      refine .inr ⟨b, off, rfl, fun j hj => ?_⟩
      obtain ⟨y, hy, hr⟩ := h2 j (by omega)
      rw [Addr.add_lit] at hy
      exact ⟨y, hy, hr⟩

end Go.Proofs.YtddhcohjmgdajabDoor

/- Segments as bytes, over plain lists, and what follows. -/
namespace Go.Proofs.YtddhcohjmgdajabDoor

/-- A segment. -/
structure Seg where
  kind : Int
  first : Int
  recs : List Rec

def zeroG : Seg := ⟨0, 0, []⟩

/-- Records, one by one, as a block tells them. -/
def parseRs : Nat → Int → List Rec → List UInt8 → List Rec
  | 0, _, pre, _ => pre
  | n + 1, i, pre, b => parseRs n i (pre ++ [{ (oneL pre b).1 with idx := i + pre.length }]) (b.drop (oneL pre b).2)

/-- The records of which bytes may be a block. -/
def parseB (b : List UInt8) : List Rec := parseRs (dec62 (b.drop (dec62 b).2)).1 (dec62 b).1 [] (b.drop ((dec62 b).2 + (dec62 (b.drop (dec62 b).2)).2))

/-- The records of which bytes are a block. -/
def decBo (b : List UInt8) : Option (List Rec) := if FitsB (parseB b) ∧ encB (parseB b) = b then some (parseB b) else none

theorem parseRs_enc : ∀ (l pre : List Rec) (i : Int) (t : List UInt8), (∀ r ∈ pre, FitsR r) → (∀ r ∈ l, FitsR r) → chainR (i + pre.length) l → parseRs l.length i pre (encRs pre l ++ t) = pre ++ l
  | [], pre, i, t, _, _, _ => by simp [parseRs]
  | r :: l, pre, i, t, hp, hl, hc => by
    obtain ⟨hi, hc⟩ := hc
    have hr := hl r (by simp)
    have e := one_enc hp hr (encRs (pre ++ [r]) l ++ t)
    rw [List.length_cons, parseRs, encRs, List.append_assoc, e]
    have er : ({ ({ r with idx := 0 } : Rec) with idx := i + pre.length } : Rec) = r := by rw [← hi]
    simp only [er, List.drop_left]
    rw [parseRs_enc l (pre ++ [r]) i t (fun s hs => by
      rcases List.mem_append.1 hs with h | h
      · exact hp s h
      · rw [List.mem_singleton.1 h]; exact hr) (fun s hs => hl s (by simp [hs])) (by
      have e2 : i + ((pre ++ [r]).length : Int) = i + (pre.length : Int) + 1 := by simp; omega
      rw [e2]; exact hc)]
    simp

theorem headD_fits {l : List Rec} (h : FitsB l) : FitsR (l.headD zeroR) := by
  cases l with
  | nil => exact absurd h.1 (by simp)
  | cons r t => exact h.2.2.1 r (by simp)

theorem parseB_enc {l : List Rec} (h : FitsB l) : parseB (encB l) = l := by
  have hh := headD_fits h
  obtain ⟨h1, h2, h3, h4⟩ := h
  obtain ⟨_, i0, i1, _⟩ := hh
  have d1 : dec62 (encB l) = ((l.headD zeroR).idx.toNat, (Lib.uvarint (l.headD zeroR).idx.toNat).length) := by
    unfold encB
    exact dec62_uvarint _ _ (by omega)
  have e1 : (encB l).drop (Lib.uvarint (l.headD zeroR).idx.toNat).length = Lib.uvarint l.length ++ encRs [] l := by
    unfold encB
    rw [List.drop_left]
  have d2 : dec62 (Lib.uvarint l.length ++ encRs [] l) = (l.length, (Lib.uvarint l.length).length) := dec62_uvarint _ _ (by omega)
  unfold parseB
  rw [d1]
  simp only
  rw [← List.drop_drop, e1, d2]
  simp only [List.drop_left]
  have h := parseRs_enc l [] ((l.headD zeroR).idx.toNat : Nat) [] (by simp) h3 (by
    have e : (((l.headD zeroR).idx.toNat : Nat) : Int) + (([] : List Rec).length : Int) = (l.headD zeroR).idx := by rw [List.length_nil]; omega
    rw [e]
    exact h4)
  rw [List.append_nil] at h
  exact h

theorem decBo_enc {l : List Rec} (h : FitsB l) : decBo (encB l) = some l := by
  unfold decBo
  rw [parseB_enc h, if_pos ⟨h, rfl⟩]

theorem decBo_some {b : List UInt8} {l : List Rec} (h : decBo b = some l) : FitsB l ∧ encB l = b := by
  unfold decBo at h
  split at h
  · rename_i hh
    injection h with h
    rw [← h]
    exact hh
  · cases h

theorem decBo_none {b : List UInt8} (h : ∀ l, FitsB l → encB l ≠ b) : decBo b = none := by
  cases hd : decBo b with
  | none => rfl
  | some l => exact absurd (decBo_some hd).2 (h l (decBo_some hd).1)

theorem decBo_rel {b : List UInt8} {l : List Rec} {e : Int} (h : DecB b l e) : (e = 0 ∧ decBo b = some l ∧ FitsB l) ∨ (e = 3 ∧ l = [] ∧ decBo b = none) := by
  rcases h with ⟨h1, h2, h3⟩ | ⟨h1, h2, h3⟩
  · exact .inl ⟨h1, by rw [← h3]; exact decBo_enc h2, h2⟩
  · exact .inr ⟨h1, h2, decBo_none h3⟩

set_option linter.unusedVariables false in
/-- Records of an elder version, one by one, each behind its length. -/
def elderL (v : Nat) (d : List UInt8) : Option (List Rec) :=
  if hd : d = [] then some []
  else if hk : (dec62 d).2 = 0 ∨ d.length < (dec62 d).2 + (dec62 d).1 ∨ (dec62 d).1 < 1 ∨ (d.getD (dec62 d).2 0).toNat ≠ v then none
  else if (decR ((d.drop (dec62 d).2).take (dec62 d).1)).2 ≠ 0 then none
  else (elderL v (d.drop ((dec62 d).2 + (dec62 d).1))).map (fun t => (decR ((d.drop (dec62 d).2).take (dec62 d).1)).1 :: t)
termination_by d.length
decreasing_by
  have h1 : d.length ≠ 0 := by simpa using hd
  rw [List.length_drop]
  omega

/-- One record of an elder version. -/
def elderE (v : Nat) (r : Rec) : List UInt8 := Lib.uvarint (encR v r).length ++ encR v r

/-- A block's data. -/
def dataV (v : Nat) (l : List Rec) : List UInt8 := if v = 3 then encB l else l.flatMap (elderE v)

/-- The records, sixteen by sixteen. -/
def chunks (l : List Rec) : List (List Rec) := if l = [] then [] else l.take 16 :: chunks (l.drop 16)
termination_by l.length
decreasing_by
  rename_i h
  have h1 : l.length ≠ 0 := by simpa using h
  rw [List.length_drop]
  omega

/-- The data of the head. -/
def headS (v k f : Nat) : List UInt8 := 108 :: (Lib.uvarint v ++ (Lib.uvarint k ++ Lib.uvarint f))

/-- The data of the blocks. -/
def blocksS (v : Nat) (l : List Rec) : List (List UInt8) := (chunks l).map (dataV v)

/-- How far the blocks' frames stand from each other. -/
def offsS : Nat → List (List UInt8) → List UInt8
  | _, [] => []
  | d, x :: xs => Lib.uvarint d ++ offsS (frameOf x).length xs

/-- The data of the footer. -/
def footS (H : List UInt8) (B : List (List UInt8)) : List UInt8 := Lib.uvarint B.length ++ offsS (frameOf H).length B

/-- May records stand there from an index on? -/
def RecsOk (l : List Rec) (first : Int) : Prop := l.length ≤ 4096 ∧ (∀ r ∈ l, FitsR r) ∧ chainR first l

instance (l : List Rec) (first : Int) : Decidable (RecsOk l first) := by unfold RecsOk; infer_instance

/-- May a segment be? -/
def MayG (s : Seg) : Prop := (0 ≤ s.kind ∧ s.kind < 6 ∧ 0 ≤ s.first ∧ s.first < 4611686018427387904) ∧ RecsOk s.recs s.first

instance (s : Seg) : Decidable (MayG s) := by unfold MayG; infer_instance

/-- A segment's data, frame by frame. -/
def partsS (v : Nat) (s : Seg) : List (List UInt8) := headS v s.kind.toNat s.first.toNat :: (blocksS v s.recs ++ [footS (headS v s.kind.toNat s.first.toNat) (blocksS v s.recs)])

/-- A segment's bytes. -/
def encS8 (v : Nat) (s : Seg) : List UInt8 := framesOf (partsS v s)

/-- What a head's data tell: version, kind, first index, or the error. -/
def readH (d : List UInt8) : Except Int (Nat × Nat × Nat) :=
  let i := (dec62 (d.drop 1)).2
  let j := (dec62 (d.drop (1 + i))).2
  let m := (dec62 (d.drop (1 + i + j))).2
  if d = [] ∨ d.getD 0 0 ≠ 108 then .error 3
  else if i = 0 ∨ j = 0 ∨ m = 0 ∨ 1 + i + j + m ≠ d.length then .error 3
  else if (dec62 (d.drop 1)).1 < 1 ∨ 3 < (dec62 (d.drop 1)).1 then .error 6
  else if 6 ≤ (dec62 (d.drop (1 + i))).1 then .error 1
  else .ok ((dec62 (d.drop 1)).1, (dec62 (d.drop (1 + i))).1, (dec62 (d.drop (1 + i + j))).1)

/-- A block of 1 to 16 records that goes on: just what is written of them. -/
def readBk (v : Nat) (d : List UInt8) (next : Int) : Option (List Rec) :=
  match (if v < 3 then elderL v d else decBo d) with
  | none => none
  | some l => if ((1 ≤ l.length ∧ l.length ≤ 16) ∧ RecsOk l next) ∧ dataV v l = d then some l else none

/-- The blocks, one by one: the records, how many blocks they are, and the error that ends them. -/
def walkB (v : Nat) (first : Int) : List (List UInt8) → List Rec → Nat → List Rec × Nat × Int
  | [], acc, _ => (acc, 0, 0)
  | d :: ds, acc, last =>
    match readBk v d (first + acc.length) with
    | none => (acc, 0, 3)
    | some r => if last < 16 then (acc, 0, 3) else if 4096 < acc.length + r.length then (acc, 0, 5)
        else ((walkB v first ds (acc ++ r) r.length).1, (walkB v first ds (acc ++ r) r.length).2.1 + 1, (walkB v first ds (acc ++ r) r.length).2.2)

/-- What data, frame by frame, are: a segment, or the error. -/
def decL8 (L : List (List UInt8)) : Seg × Int :=
  if L.length < 2 then (zeroG, 16)
  else match readH (L.headD []) with
    | .error e => (zeroG, e)
    | .ok (v, k, f) =>
      if (walkB v f (L.tail.dropLast) [] 16).2.2 ≠ 0 then (zeroG, (walkB v f (L.tail.dropLast) [] 16).2.2)
      else if footS (L.headD []) L.tail.dropLast = L.getLastD [] then (⟨k, f, (walkB v f (L.tail.dropLast) [] 16).1⟩, 0) else (zeroG, 16)

/-- What bytes are: a segment, or the error. -/
def decS8 (b : List UInt8) : Seg × Int := if (wholeF b).2.2 ≠ 0 then (zeroG, ((wholeF b).2.2 : Int)) else decL8 (wholeF b).1

/-- What is whole of a segment. -/
def recL8 (L : List (List UInt8)) : Seg × Nat × Bool :=
  if L = [] then (zeroG, 0, false)
  else match readH (L.headD []) with
    | .error _ => (zeroG, 0, false)
    | .ok (v, k, f) => (⟨k, f, (walkB v f L.tail [] 16).1⟩, (framesOf (L.take (1 + (walkB v f L.tail [] 16).2.1))).length, true)

def recS8 (b : List UInt8) : Seg × Nat × Bool := recL8 (wholeF b).1

/-- Where the block of an index stands. -/
def findS8 (b : List UInt8) (index : Int) : Nat × Int :=
  if (decS8 b).2 ≠ 0 then (0, (decS8 b).2)
  else if index < (decS8 b).1.first ∨ (decS8 b).1.first + (decS8 b).1.recs.length ≤ index then (0, 8)
  else ((framesOf ((wholeF b).1.take (1 + (index - (decS8 b).1.first).toNat / 16))).length, 0)

/-- A segment's records, upgraded. -/
def upgG (v : Nat) (s : Seg) : Seg := ⟨s.kind, s.first, s.recs.map (upgR v)⟩

end Go.Proofs.YtddhcohjmgdajabDoor

/- Slices of records cut in the midst, put behind others; slices of slices of bytes cut; a segment's value and its box. -/
namespace Go.Proofs.YtddhcohjmgdajabDoor
open Go.RowKit

set_option maxRecDepth 100000 in
theorem RdR.mid {w : World} {ao : Option Addr} {n cap : Nat} {l : List Rec} (h : RdR w (.slice ao n cap) l) (i j m : Nat) (hij : i ≤ j) (hj : j ≤ l.length) (hm : j ≤ m) (hmc : m ≤ cap) : RdR w (sliced ao i j m 7) ((l.drop i).take (j - i)) := by
  obtain ⟨ao', cap', hv, h1, h2, h3, hi, h4⟩ := h
  simp only [Value.slice.injEq] at hv
  obtain ⟨rfl, rfl, rfl⟩ := hv
  have hlen : ((l.drop i).take (j - i)).length = j - i := by simp; omega
  have hi' : ∀ n ∈ (l.drop i).take (j - i), RecOk n := fun n hn => hi n (List.mem_of_mem_drop (List.mem_of_mem_take hn))
  unfold sliced
  by_cases hmi : m = i
  · rw [if_pos hmi]
    have e : j - i = 0 := by omega
    refine ⟨ao, m - i, by rw [hlen], by omega, by omega, fun hn => by have := h3 hn; omega, hi', .inl ?_⟩
    rw [e]
    simp
  · rw [if_neg hmi]
    refine ⟨ao.map (·.add (i * 7)), m - i, by rw [hlen], by omega, by omega, fun hn => ?_, hi', ?_⟩
    · have hn' : ao = none := by simpa using hn
      have := h3 hn'
      omega
    · rcases h4 with h4 | ⟨b, off, h5, h6⟩
      · exact .inl (by rw [h4]; simp)
      · refine .inr ⟨b, off + i * 7, ?_, fun k hk => ?_⟩
        · rw [h5, Option.map_some, Addr.add_lit]
        · rw [hlen] at hk
          have h7 := h6 (i + k) (by omega)
          have e1 : off + i * 7 + k * 7 = off + (i + k) * 7 := by omega
          have e2 : ((l.drop i).take (j - i)).getD k zeroR = l.getD (i + k) zeroR := by simp [List.getD, hk]
          rw [e1, e2]
          exact h7

set_option maxRecDepth 100000 in
theorem run_cutR_lh (w : World) (v : Value) (l : List Rec) (hr : RdR w v l) (k k' : IntKind) (i j : Int) (h0 : 0 ≤ i) (h1 : i ≤ j) (h2 : j ≤ l.length) :
    ∃ v', (Instr.sliceAt 22 v (some (.int k i)) (some (.int k' j)) none).run Tryd.prog w = .ok v' w ∧ RdR w v' ((l.drop i.toNat).take (j.toNat - i.toNat)) := by
  have h := hr
  obtain ⟨ao, cap, rfl, hlc, _⟩ := hr
  refine ⟨sliced ao i.toNat j.toNat cap 7, ?_, h.mid i.toNat j.toNat cap (by omega) (by omega) (by omega) (Nat.le_refl _)⟩
  rw [run_sliceAt_slice w 22 _ _ _ _ under_recs, run_slice_lh w 22 ao l.length cap under_recs k k' i j h0 h1 (by omega), elem_recs, size_rec]
  rfl

set_option maxRecDepth 100000 in
theorem run_cutR_h (w : World) (v : Value) (l : List Rec) (hr : RdR w v l) (k : IntKind) (j : Int) (h0 : 0 ≤ j) (h2 : j ≤ l.length) :
    ∃ v', (Instr.sliceAt 22 v none (some (.int k j)) none).run Tryd.prog w = .ok v' w ∧ RdR w v' (l.take j.toNat) := by
  have h := hr
  obtain ⟨ao, cap, rfl, hlc, _⟩ := hr
  refine ⟨sliced ao 0 j.toNat cap 7, ?_, ?_⟩
  · rw [run_sliceAt_slice w 22 _ _ _ _ under_recs, run_slice_h w 22 ao l.length cap under_recs k j h0 (by omega), elem_recs, size_rec]
    rfl
  · have := h.mid 0 j.toNat cap (by omega) (by omega) (by omega) (Nat.le_refl _)
    rw [List.drop_zero, Nat.sub_zero] at this
    exact this

set_option maxRecDepth 100000 in
theorem run_cutR_l (w : World) (v : Value) (l : List Rec) (hr : RdR w v l) (k : IntKind) (i : Int) (h0 : 0 ≤ i) (h2 : i ≤ l.length) :
    ∃ v', (Instr.sliceAt 22 v (some (.int k i)) none none).run Tryd.prog w = .ok v' w ∧ RdR w v' (l.drop i.toNat) := by
  have h := hr
  obtain ⟨ao, cap, rfl, hlc, _⟩ := hr
  refine ⟨sliced ao i.toNat l.length cap 7, ?_, ?_⟩
  · rw [run_sliceAt_slice w 22 _ _ _ _ under_recs, run_slice_l w 22 ao l.length cap under_recs k i h0 (by omega), elem_recs, size_rec]
    rfl
  · have := h.mid i.toNat l.length cap (by omega) (Nat.le_refl _) hlc (Nat.le_refl _)
    rw [List.take_of_length_le (by rw [List.length_drop]; omega)] at this
    exact this

set_option maxRecDepth 100000 in
theorem wpList_cutR (w : World) {ops : Array Oper} {rest : List Oper} {o : Oper} {a : Act} {Q : Exit → Act → World → Prop} (hgd : o.guard = none) (x : Operand) (lo hi mx : Option Operand)
    (ho : o.op = .slice 22 x lo hi mx) (l : List Rec)
    (hrun : ∃ v', (Instr.sliceAt 22 (a.eval x) (lo.map a.eval) (hi.map a.eval) (mx.map a.eval)).run Tryd.prog w = .ok v' w ∧ RdR w v' l)
    (h : ∀ v', RdR w v' l → wpList Tryd.prog ops Q rest (a.put o.dst v') w) : wpList Tryd.prog ops Q (o :: rest) a w :=
  wpList_plain hgd fun _ hK => by
    obtain ⟨v', hrun, hr⟩ := hrun
    unfold Oper.wp execOp
    simp only [ho, hrun, Sem.run_bind, Sem.run_pure, Result.andThen_ok]
    exact hK _ _ (h v' hr)

set_option maxRecDepth 100000 in
theorem RdL.mid {w : World} {ao : Option Addr} {n cap : Nat} {l : List (List UInt8)} (h : RdL w (.slice ao n cap) l) (i j m : Nat) (hij : i ≤ j) (hj : j ≤ l.length) (hm : j ≤ m) (hmc : m ≤ cap) : RdL w (sliced ao i j m 1) ((l.drop i).take (j - i)) := by
  obtain ⟨ao', cap', hv, h1, h2, h3, h4⟩ := h
  simp only [Value.slice.injEq] at hv
  obtain ⟨rfl, rfl, rfl⟩ := hv
  have hlen : ((l.drop i).take (j - i)).length = j - i := by simp; omega
  unfold sliced
  by_cases hmi : m = i
  · rw [if_pos hmi]
    have e : j - i = 0 := by omega
    refine ⟨ao, m - i, by rw [hlen], by omega, by omega, fun hn => by have := h3 hn; omega, .inl ?_⟩
    rw [e]
    simp
  · rw [if_neg hmi]
    refine ⟨ao.map (·.add (i * 1)), m - i, by rw [hlen], by omega, by omega, fun hn => ?_, ?_⟩
    · have hn' : ao = none := by simpa using hn
      have := h3 hn'
      omega
    · rcases h4 with h4 | ⟨b, off, h5, h6⟩
      · exact .inl (by rw [h4]; simp)
      · refine .inr ⟨b, off + i, ?_, fun k hk => ?_⟩
        · rw [h5, Nat.mul_one, Option.map_some, Addr.add_lit]
        · rw [hlen] at hk
          obtain ⟨x, hx, hxr⟩ := h6 (i + k) (by omega)
          refine ⟨x, by rw [Nat.add_assoc]; exact hx, ?_⟩
          have e2 : ((l.drop i).take (j - i)).getD k [] = l.getD (i + k) [] := by simp [List.getD, hk]
          rw [e2]
          exact hxr

set_option maxRecDepth 100000 in
theorem run_cutL_l (w : World) (v : Value) (L : List (List UInt8)) (hr : RdL w v L) (k : IntKind) (i : Int) (h0 : 0 ≤ i) (h2 : i ≤ L.length) :
    ∃ v', (Instr.sliceAt 45 v (some (.int k i)) none none).run Tryd.prog w = .ok v' w ∧ RdL w v' (L.drop i.toNat) := by
  have h := hr
  obtain ⟨ao, cap, rfl, hlc, _⟩ := hr
  refine ⟨sliced ao i.toNat L.length cap 1, ?_, ?_⟩
  · rw [run_sliceAt_slice w 45 _ _ _ _ under_rows, run_slice_l w 45 ao L.length cap under_rows k i h0 (by omega), elem_rows, size_bytes]
    rfl
  · have := h.mid i.toNat L.length cap (by omega) (Nat.le_refl _) hlc (Nat.le_refl _)
    rw [List.take_of_length_le (by rw [List.length_drop]; omega)] at this
    exact this

set_option maxRecDepth 100000 in
/-- The cells of records that are read. -/
theorem RdR.cells {w : World} {ao : Option Addr} {l : List Rec} (h : l = [] ∨ ∃ b off, ao = some ⟨b, off, none⟩ ∧ ∀ j, j < l.length → RecAt w b (off + j * 7) (l.getD j zeroR)) (a : Addr) (ha : ao = some a) :
    ∀ j u, (recCells l)[j]? = some u → w.cell? (a.add j) = some u := by
  intro j u hu
  rcases h with h | ⟨b, off, h5, h6⟩
  · rw [h] at hu
    simp [recCells] at hu
  · rw [h5] at ha
    injection ha with ha
    subst ha
    have hj : j < (recCells l).length := (List.getElem?_eq_some_iff.1 hu).1
    rw [recCells_length] at hj
    have hdiv : j = j / 7 * 7 + j % 7 := by omega
    have hg := recCells_get l (j / 7) (j % 7) (by omega) (by omega)
    rw [← hdiv, hu] at hg
    obtain ⟨c0, c1, c2, c3, c4, c5, c6⟩ := h6 (j / 7) (by omega)
    have e : ∀ k, k < 7 → off + (j / 7 * 7 + k) = off + j / 7 * 7 + k := fun k _ => by omega
    rw [Addr.add_lit, hdiv, e (j % 7) (by omega)]
    have hk : j % 7 = 0 ∨ j % 7 = 1 ∨ j % 7 = 2 ∨ j % 7 = 3 ∨ j % 7 = 4 ∨ j % 7 = 5 ∨ j % 7 = 6 := by omega
    rcases hk with hk | hk | hk | hk | hk | hk | hk
    all_goals
      rw [hk] at hg ⊢
      rw [hg]
      first | exact c0 | exact c1 | exact c2 | exact c3 | exact c4 | exact c5 | exact c6

set_option maxRecDepth 100000 in
/-- Records behind a row of one's own. -/
theorem run_append_recs (w : World) (ty : TypeId) (B : Nat) (v : Value) (l0 : List Rec) (hown : OwnR w B v l0) (vx : Value) (l : List Rec) (hr : RdR w vx l)
    (hlim : l0.length + l.length ≤ 1000000) (hbase : B ≤ w.heap.size) :
    ∃ v' w', (Builtin.append_ #[22, 22] ty #[v, vx]).run Tryd.prog w = .ok v' w' ∧ OwnR w' B v' (l0 ++ l) ∧ Below B w w' := by
  obtain ⟨i0, hi, hz0, hz1, hz2⟩ := info_parts info_rec
  obtain ⟨ao, cap, rfl, hlc, hcm, hn0, _, hao⟩ := hr
  cases ao with
  | none =>
    have hc := hn0 rfl
    subst hc
    have hl : l = [] := List.eq_nil_of_length_eq_zero (by omega)
    subst hl
    have hrun := run_append_owned_none (P := Tryd.prog) w B 22 ty 44 i0 7 Tryd.underlying22 hi v l0.length (recCells l0) hown
    exact ⟨v, w, hrun, by rw [List.append_nil]; exact hown, Below.refl _ _⟩
  | some a =>
    obtain ⟨v', w', hrun, ho, hg, _⟩ := run_append_own (P := Tryd.prog) w B 22 ty 44 i0 _ 7 56 Tryd.underlying22 hi hz0 hz1 hz2 rfl (by decide) v l0.length (recCells l0) hown a l.length cap (recCells l)
      (recCells_length l) (RdR.cells hao a rfl) (recCells_one l) (by unfold maxLen; omega) (by omega) hbase
    refine ⟨v', w', hrun, ?_, ?_⟩
    · unfold OwnR
      rw [List.length_append, recCells_app]
      exact ho
    · exact (Below.refl _ _).grown hg hbase (fun k hk => (World.ownsRow.lt hown k hk).1)

set_option maxRecDepth 100000 in
theorem wpList_append_recs (w : World) {ops : Array Oper} {rest : List Oper} {o : Oper} {a : Act} {Q : Exit → Act → World → Prop} (hgd : o.guard = none) (s x : Operand)
    (ho : o.op = .call { callee := .builtin .append, args := #[s, x], argTypes := #[22, 22] })
    (B : Nat) (v : Value) (l0 : List Rec) (hs : a.eval s = v) (hown : OwnR w B v l0) (vx : Value) (l : List Rec) (hx : a.eval x = vx) (hr : RdR w vx l)
    (hlim : l0.length + l.length ≤ 1000000) (hbase : B ≤ w.heap.size)
    (h : ∀ v' w', OwnR w' B v' (l0 ++ l) → Below B w w' → wpList Tryd.prog ops Q rest (a.put o.dst v') w') : wpList Tryd.prog ops Q (o :: rest) a w :=
  wpList_plain hgd fun _ hK => by
    obtain ⟨v', w', hrun, h2, h3⟩ := run_append_recs w o.type B v l0 hown vx l hr hlim hbase
    unfold Oper.wp execOp
    simp only [ho, resolve, invoke, builtin, Sem.run_bind, Sem.run_pure, Result.andThen_ok, List.map_toArray, List.map_cons, List.map_nil, hs, hx, hrun]
    exact hK _ _ (h v' w' h2 h3)

/-- The length of a slice value. -/
def lenV8 : Value → Nat
  | .slice _ n _ => n
  | _ => 0

/-- A segment's value. -/
def SgV (w : World) (v : Value) (s : Seg) : Prop := ∃ vl, v = .agg #[.int .i64 s.kind, .int .i64 s.first, vl] ∧ RdR w vl s.recs ∧ I64 s.kind ∧ I64 s.first

set_option maxRecDepth 100000 in
theorem SgV.below {w w' : World} {v : Value} {s : Seg} (h : SgV w v s) {B : Nat} (hb : Below B w w') (hB : w.heap.size ≤ B) : SgV w' v s := by
  obtain ⟨vl, h1, h2, h3⟩ := h
  exact ⟨vl, h1, h2.below hb hB, h3⟩

/-- A segment's box. -/
def Bsg (w : World) (b : Nat) (cs : Array Value) : Prop := w.heap[b]? = some (.cells cs 24 (0, 0))

set_option maxRecDepth 100000 in
theorem Bsg.lt {w : World} {b : Nat} {cs : Array Value} (h : Bsg w b cs) : b < w.heap.size := (Array.getElem?_eq_some_iff.1 h).1

set_option maxRecDepth 100000 in
theorem Bsg.below {w w' : World} {b B : Nat} {cs : Array Value} (h : Bsg w b cs) (hb : Below B w w') (hB : w.heap.size ≤ B) : Bsg w' b cs := (hb.block b (by have := h.lt; omega)).trans h

set_option maxRecDepth 100000 in
theorem Bsg.cell {w : World} {b : Nat} {cs : Array Value} (h : Bsg w b cs) (j : Nat) : w.cell? ⟨b, j, none⟩ = cs[j]? ∧ w.frozen? ⟨b, j, none⟩ = false := ⟨cell_of_row w b j _ _ _ h, frozen_of_row w b j _ _ h⟩

end Go.Proofs.YtddhcohjmgdajabDoor

/- Contracts of ferrymanref07: last, Fits. -/
namespace Go.Proofs.YtddhcohjmgdajabDoor
open Go.RowKit

theorem takeR_snoc {l : List Rec} {q : Nat} (h : q < l.length) : l.take (q + 1) = l.take q ++ [l.getD q zeroR] := by
  rw [List.take_add_one]
  simp [List.getD, h]

theorem chain_get : ∀ (l : List Rec) (i : Int) (j : Nat), chainR i l → j < l.length → (l.getD j zeroR).idx = i + j
  | r :: t, i, 0, h, _ => by
    have := h.1
    simp [List.getD, this]
  | r :: t, i, j + 1, h, hj => by
    have := chain_get t (i + 1) j h.2 (by simpa using hj)
    simp only [List.getD, List.getElem?_cons_succ] at this ⊢
    rw [this]
    omega

theorem chain_snoc : ∀ (l : List Rec) (i : Int) (r : Rec), chainR i (l ++ [r]) ↔ chainR i l ∧ r.idx = i + l.length
  | [], i, r => by simp [chainR]
  | s :: t, i, r => by
    rw [List.cons_append, chainR, chainR, chain_snoc t (i + 1) r, List.length_cons, and_assoc]
    constructor
    · rintro ⟨h1, h2, h3⟩
      exact ⟨h1, h2, by omega⟩
    · rintro ⟨h1, h2, h3⟩
      exact ⟨h1, h2, by omega⟩

theorem chain_take : ∀ (l : List Rec) (i : Int) (k : Nat), chainR i l → chainR i (l.take k)
  | _, _, 0, _ => by simp [chainR]
  | [], _, k + 1, _ => by simp [chainR]
  | r :: t, i, k + 1, h => by
    rw [List.take_succ_cons]
    exact ⟨h.1, chain_take t (i + 1) k h.2⟩

/-- The first records fit, one behind the other. -/
def partB (l : List Rec) (k : Nat) : Prop := (∀ r ∈ l.take k, FitsR r) ∧ chainR (l.headD zeroR).idx (l.take k)

theorem partB_zero (l : List Rec) : partB l 0 := ⟨fun r h => by simp at h, by simp [chainR]⟩

theorem partB_next {l : List Rec} {k : Nat} (hk : k < l.length) : partB l (k + 1) ↔ partB l k ∧ FitsR (l.getD k zeroR) ∧ (l.getD k zeroR).idx = (l.headD zeroR).idx + k := by
  unfold partB
  rw [takeR_snoc hk, chain_snoc]
  have hl : (l.take k).length = k := by simp; omega
  rw [hl]
  constructor
  · rintro ⟨h1, h2, h3⟩
    exact ⟨⟨fun r hr => h1 r (by simp [hr]), h2⟩, h1 _ (by simp), h3⟩
  · rintro ⟨⟨h1, h2⟩, h3, h4⟩
    refine ⟨fun r hr => ?_, h2, h4⟩
    rcases List.mem_append.1 hr with h | h
    · exact h1 r h
    · simp only [List.mem_singleton] at h
      rw [h]
      exact h3

theorem partB_all {l : List Rec} (h : partB l l.length) (h1 : 1 ≤ l.length) (h2 : l.length ≤ 256) : FitsB l := by
  unfold partB at h
  rw [List.take_length] at h
  exact ⟨h1, h2, h.1, h.2⟩

theorem FitsB.part {l : List Rec} (h : FitsB l) (k : Nat) : partB l k := ⟨fun r hr => h.2.2.1 r (List.mem_of_mem_take hr), chain_take l _ k h.2.2.2⟩

theorem partB_prev {l : List Rec} {k : Nat} (h : partB l (k + 1)) (hk : k < l.length) : (l.getD k zeroR).idx = (l.headD zeroR).idx + k ∧ FitsR (l.getD k zeroR) := ⟨((partB_next hk).1 h).2.2, ((partB_next hk).1 h).2.1⟩

end Go.Proofs.YtddhcohjmgdajabDoor

/- Contracts of ferrymanref08: records, May. -/
namespace Go.Proofs.YtddhcohjmgdajabDoor
open Go.RowKit

/-- The first records may stand there from an index on. -/
def recP (l : List Rec) (first : Int) (k : Nat) : Prop := (∀ r ∈ l.take k, FitsR r) ∧ chainR first (l.take k)

theorem recP_zero (l : List Rec) (first : Int) : recP l first 0 := ⟨fun r h => by simp at h, by simp [chainR]⟩

theorem recP_next {l : List Rec} {first : Int} {k : Nat} (hk : k < l.length) : recP l first (k + 1) ↔ recP l first k ∧ FitsR (l.getD k zeroR) ∧ (l.getD k zeroR).idx = first + k := by
  unfold recP
  rw [takeR_snoc hk, chain_snoc]
  have hl : (l.take k).length = k := by rw [List.length_take]; omega
  rw [hl]
  constructor
  · rintro ⟨h1, h2, h3⟩
    exact ⟨⟨fun r hr => h1 r (by simp [hr]), h2⟩, h1 _ (by simp), h3⟩
  · rintro ⟨⟨h1, h2⟩, h3, h4⟩
    refine ⟨fun r hr => ?_, h2, h4⟩
    rcases List.mem_append.1 hr with h | h
    · exact h1 r h
    · rw [List.mem_singleton.1 h]; exact h3

theorem recP_all {l : List Rec} {first : Int} (h4 : l.length ≤ 4096) : recP l first l.length ↔ RecsOk l first := by
  unfold recP RecsOk
  rw [List.take_length]
  exact ⟨fun h => ⟨h4, h.1, h.2⟩, fun h => ⟨h.2.1, h.2.2⟩⟩

theorem recsOk_part {l : List Rec} {first : Int} (h : RecsOk l first) (k : Nat) : recP l first k := ⟨fun r hr => h.2.1 r (List.mem_of_mem_take hr), chain_take l first k h.2.2⟩

/-- An index that is begun with is one that may be. -/
theorem recP_first {l : List Rec} {first : Int} {k : Nat} (h : recP l first k) (hk : 1 ≤ k) (hl : k ≤ l.length) : 0 ≤ first ∧ first < 4611686018427387904 := by
  cases l with
  | nil => simp at hl; omega
  | cons r t =>
    obtain ⟨j, rfl⟩ : ∃ j, k = j + 1 := ⟨k - 1, by omega⟩
    unfold recP at h
    rw [List.take_succ_cons] at h
    have h1 := h.1 r (by simp)
    have h2 := h.2.1
    obtain ⟨_, i0, i1, _⟩ := h1
    omega

end Go.Proofs.YtddhcohjmgdajabDoor

/- Contract of ferrymanref07: Encode. -/
namespace Go.Proofs.YtddhcohjmgdajabDoor
open Go.RowKit

theorem putOpL_len30 {o : Opn} (h : FitsO o) : (putOpL o).length ≤ 30 := by
  have h1 := uv10 (fits_i64 h).1
  have h2 := uv10 (fits_i64 h).2
  have hc0 : 0 ≤ o.code := h.1
  have hc1 : o.code ≤ 10 := h.2.1
  have h3 := uv10' (n := o.code.toNat) (by omega)
  unfold putOpL
  rw [List.length_append, List.length_append]
  omega

theorem encOne_len {pre : List Rec} (hp : ∀ r ∈ pre, FitsR r) {r : Rec} (hr : FitsR r) : (encOne pre r).length ≤ 60 := by
  have hd := diff_i64 hp hr
  have hresp := fitsR_resp hr
  have h4 := putOpL_len30 hr.1
  obtain ⟨_, _, _, _, _, hp0, hp1, _⟩ := hr
  have h1 := uv10' (n := r.proc.toNat) (by omega)
  have h2 := uv10 hd
  have h3 := uv10 hresp
  unfold encOne
  simp only [List.length_append]
  omega

theorem encRs_len : ∀ (l pre : List Rec), (∀ r ∈ pre, FitsR r) → (∀ r ∈ l, FitsR r) → (encRs pre l).length ≤ 60 * l.length
  | [], _, _, _ => by simp [encRs]
  | r :: t, pre, hp, hl => by
    have h1 := encOne_len hp (hl r (by simp))
    have h2 := encRs_len t (pre ++ [r]) (fun s hs => by
      rcases List.mem_append.1 hs with h | h
      · exact hp s h
      · simp at h; rw [h]; exact hl r (by simp)) (fun s hs => hl s (by simp [hs]))
    rw [encRs, List.length_append, List.length_cons]
    omega

/-- What is encoded: the bytes, or none and ErrArg. -/
def EncodedB (w : World) (l : List Rec) (e : Ending) (w' : World) : Prop :=
  ∃ v', e = .returned (.tuple #[v', .int .i64 (if FitsB l then 0 else 1)]) ∧ Own w' w.heap.size v' (if FitsB l then encB l else []) ∧ Below w.heap.size w w'

end Go.Proofs.YtddhcohjmgdajabDoor

/- Contract of ferrymanref06: value. -/
namespace Go.Proofs.YtddhcohjmgdajabDoor
open Go.RowKit

theorem Below.allocs {a w : World} (h : Below a.heap.size a w) (X : Obj) : Below a.heap.size a (w.alloc X) := h.alloc h.size X

end Go.Proofs.YtddhcohjmgdajabDoor

/- Contract of ferrymanref06: Encode. -/
namespace Go.Proofs.YtddhcohjmgdajabDoor
open Go.RowKit

def encErr (v : Int) (r : Rec) : Int := if 1 ≤ v ∧ v ≤ 3 then (if FitsR r then 0 else 1) else 6

def encL (v : Int) (r : Rec) : List UInt8 := if 1 ≤ v ∧ v ≤ 3 then (if FitsR r then encR v r else []) else []

/-- What is encoded: the bytes, or none and the error. -/
def EncodedR (w : World) (v : Int) (r : Rec) (e : Ending) (w' : World) : Prop :=
  ∃ v', e = .returned (.tuple #[v', .int .i64 (encErr v r)]) ∧ Own w' w.heap.size v' (encL v r) ∧ Below w.heap.size w w'

/-- What stands there ahead of field k. -/
def partR (v : Int) (r : Rec) (k : Nat) : List UInt8 := Lib.uvarint v.toNat ++ encFs r ((fieldsV v).filter (fun f => decide (f < k)))

theorem partR_one {v : Int} (h1 : 1 ≤ v) (h3 : v ≤ 3) (r : Rec) : partR v r 1 = Lib.uvarint v.toNat := by
  have hv : v = 1 ∨ v = 2 ∨ v = 3 := by omega
  rcases hv with rfl | rfl | rfl <;> exact List.append_nil _

theorem partR_six {v : Int} (h1 : 1 ≤ v) (h3 : v ≤ 3) (r : Rec) : partR v r 6 = encR v r := by
  have hv : v = 1 ∨ v = 2 ∨ v = 3 := by omega
  rcases hv with rfl | rfl | rfl <;> rfl

theorem encFs_snoc (r : Rec) (f : Nat) : ∀ fs : List Nat, encFs r (fs ++ [f]) = encFs r fs ++ (Lib.uvarint f ++ bytesF r f)
  | [] => by simp [encFs]
  | g :: gs => by rw [List.cons_append, encFs, encFs_snoc r f gs, encFs]; simp [List.append_assoc]

theorem fields_snoc {v : Int} (h1 : 1 ≤ v) (h3 : v ≤ 3) {k : Nat} (hk1 : 1 ≤ k) (hk5 : k ≤ 5) : (fieldsV v).filter (fun f => decide (f < k + 1)) = (fieldsV v).filter (fun f => decide (f < k)) ++ (if hasV v.toNat k then [k] else []) := by
  have hv : v = 1 ∨ v = 2 ∨ v = 3 := by omega
  have hk : k = 1 ∨ k = 2 ∨ k = 3 ∨ k = 4 ∨ k = 5 := by omega
  rcases hv with rfl | rfl | rfl <;> rcases hk with rfl | rfl | rfl | rfl | rfl <;> decide

theorem partR_has {v : Int} (h1 : 1 ≤ v) (h3 : v ≤ 3) (r : Rec) {k : Nat} (hk1 : 1 ≤ k) (hk5 : k ≤ 5) (hh : hasV v.toNat k) : partR v r (k + 1) = (partR v r k ++ Lib.uvarint k) ++ bytesF r k := by
  unfold partR
  rw [fields_snoc h1 h3 hk1 hk5, if_pos hh, encFs_snoc]
  simp only [List.append_assoc]

theorem partR_not {v : Int} (h1 : 1 ≤ v) (h3 : v ≤ 3) (r : Rec) {k : Nat} (hk1 : 1 ≤ k) (hk5 : k ≤ 5) (hh : ¬ hasV v.toNat k) : partR v r (k + 1) = partR v r k := by
  unfold partR
  rw [fields_snoc h1 h3 hk1 hk5, if_neg hh, List.append_nil]

theorem bytesF_length {r : Rec} (h : FitsR r) (f : Nat) : (bytesF r f).length ≤ 30 := by
  have hr := fitsR_resp h
  obtain ⟨h1, h2, h3, h4, h5, h6, h7, h8, h9⟩ := h
  have u1 := uv10' (n := r.idx.toNat) (by omega)
  have u2 := uv10' (n := r.proc.toNat) (by omega)
  have u3 := uv10' (n := r.seq.toNat) (by omega)
  have u4 := uv10 hr
  have u5 := uv10 (fits_i64 h1).1
  have u6 := uv10 (fits_i64 h1).2
  have u7 := uv10' (n := r.op.code.toNat) (by have := h1.1; have := h1.2.1; omega)
  unfold bytesF putOpL
  repeat' split
  all_goals
    try simp only [List.length_append]
    omega

theorem encFs_length {r : Rec} (h : FitsR r) : ∀ fs : List Nat, (∀ f ∈ fs, f ≤ 5) → (encFs r fs).length ≤ 40 * fs.length
  | [], _ => by simp [encFs]
  | f :: fs, hf => by
    have ih := encFs_length h fs (fun g hg => hf g (by simp [hg]))
    have h1 := bytesF_length h f
    have h2 := uv10' (n := f) (by have := hf f (by simp); omega)
    rw [encFs, List.length_append, List.length_append, List.length_cons]
    omega

theorem fields_five (v : Int) : (fieldsV v).length ≤ 5 ∧ ∀ f ∈ fieldsV v, f ≤ 5 := by
  unfold fieldsV
  repeat' split
  all_goals
    refine ⟨by simp, ?_⟩
    intro f hf
    simp at hf
    omega

theorem partR_length {v : Int} (h1 : 1 ≤ v) (h3 : v ≤ 3) {r : Rec} (h : FitsR r) (k : Nat) : (partR v r k).length ≤ 300 := by
  have h4 := uv10' (n := v.toNat) (by omega)
  have h5 := fields_five v
  have h6 := encFs_length h ((fieldsV v).filter (fun f => decide (f < k))) (fun f hf => h5.2 f (List.mem_filter.1 hf).1)
  have h7 := List.length_filter_le (fun f => decide (f < k)) (fieldsV v)
  unfold partR
  rw [List.length_append]
  omega

end Go.Proofs.YtddhcohjmgdajabDoor

/- Segments: what is encoded is read. -/
namespace Go.Proofs.YtddhcohjmgdajabDoor

theorem uv_small {n : Nat} (h : n < 128) : Lib.uvarint n = [n.toUInt8] := Lib.uvarint_small h

theorem encR_first {v : Nat} (h1 : 1 ≤ v) (h3 : v ≤ 3) (r : Rec) : ∃ t, encR v r = v.toUInt8 :: t := by
  refine ⟨encFs r (fieldsV v), ?_⟩
  unfold encR
  rw [Int.toNat_natCast, uv_small (by omega)]
  rfl

theorem toU8_toNat {v : Nat} (h : v < 256) : v.toUInt8.toNat = v := by
  simp
  omega

theorem elder_step {v : Nat} (h1 : 1 ≤ v) (h3 : v ≤ 3) {r : Rec} (hr : FitsR r) (hn : (encR v r).length < 4611686018427387904) (t : List UInt8) :
    elderL v (elderE v r ++ t) = (elderL v t).map (fun q => upgR v r :: q) := by
  obtain ⟨t0, he⟩ := encR_first h1 h3 r
  have hu := Lib.uvarint_pos (encR v r).length
  have hne : elderE v r ++ t ≠ [] := fun e => by
    have := congrArg List.length e
    unfold elderE at this
    rw [List.length_append, List.length_append, List.length_nil] at this
    omega
  have hl : 1 ≤ (encR v r).length := by rw [he]; simp
  have hd : dec62 (elderE v r ++ t) = ((encR v r).length, (Lib.uvarint (encR v r).length).length) := by
    unfold elderE
    rw [List.append_assoc]
    exact dec62_uvarint _ _ hn
  have hdr : (elderE v r ++ t).drop (Lib.uvarint (encR v r).length).length = encR v r ++ t := by
    unfold elderE
    rw [List.append_assoc, List.drop_left]
  have hg : (elderE v r ++ t).getD (Lib.uvarint (encR v r).length).length 0 = v.toUInt8 := by
    have e : (elderE v r ++ t).getD (Lib.uvarint (encR v r).length).length 0 = ((elderE v r ++ t).drop (Lib.uvarint (encR v r).length).length).getD 0 0 := by
      simp [List.getD]
    rw [e, hdr, he]
    rfl
  rw [elderL, dif_neg hne, hd]
  simp only
  rw [dif_neg (by
    rw [hg, toU8_toNat (by omega)]
    have : (elderE v r ++ t).length = (Lib.uvarint (encR v r).length).length + (encR v r).length + t.length := by
      unfold elderE
      simp only [List.length_append]
    omega)]
  rw [hdr, List.take_left, decR_enc (by omega) (by omega) hr]
  simp only [ne_eq, not_true_eq_false, if_false]
  rw [← List.drop_drop, hdr, List.drop_left]

theorem encR_len {v : Nat} (h1 : 1 ≤ v) (h3 : v ≤ 3) {r : Rec} (hr : FitsR r) : (encR v r).length ≤ 300 := by
  have hresp := fitsR_resp hr
  obtain ⟨g1, g2, g3, g4, g5, g6, g7, g8, g9⟩ := hr
  have q0 : (Lib.uvarint v).length ≤ 10 := Lib.uvarint_length64 (by omega)
  have q1 : (Lib.uvarint r.idx.toNat).length ≤ 10 := Lib.uvarint_length64 (by omega)
  have q2 : (Lib.uvarint r.proc.toNat).length ≤ 10 := Lib.uvarint_length64 (by omega)
  have q3 : (Lib.uvarint r.seq.toNat).length ≤ 10 := Lib.uvarint_length64 (by omega)
  have q4 : (Lib.uvarint r.op.code.toNat).length ≤ 10 := Lib.uvarint_length64 (by have := g1.1; have := g1.2.1; omega)
  have q5 : (Lib.uvarint (Lib.zigzag r.op.a)).length ≤ 10 := Lib.uvarint_length64 (zig_lt (fits_i64 g1).1)
  have q6 : (Lib.uvarint (Lib.zigzag r.op.b)).length ≤ 10 := Lib.uvarint_length64 (zig_lt (fits_i64 g1).2)
  have q7 : (Lib.uvarint (Lib.zigzag r.resp)).length ≤ 10 := Lib.uvarint_length64 (zig_lt hresp)
  have f1 : (Lib.uvarint 1).length ≤ 10 := Lib.uvarint_length64 (by decide)
  have f2 : (Lib.uvarint 2).length ≤ 10 := Lib.uvarint_length64 (by decide)
  have f3 : (Lib.uvarint 3).length ≤ 10 := Lib.uvarint_length64 (by decide)
  have f4 : (Lib.uvarint 4).length ≤ 10 := Lib.uvarint_length64 (by decide)
  have f5 : (Lib.uvarint 5).length ≤ 10 := Lib.uvarint_length64 (by decide)
  have hv : v = 1 ∨ v = 2 ∨ v = 3 := by omega
  rcases hv with rfl | rfl | rfl
  · simp [encR, fieldsV, encFs, bytesF, putOpL]
    omega
  · simp [encR, fieldsV, encFs, bytesF, putOpL]
    omega
  · simp [encR, fieldsV, encFs, bytesF, putOpL]
    omega

theorem elderE_len {v : Nat} (h1 : 1 ≤ v) (h3 : v ≤ 3) {r : Rec} (hr : FitsR r) : (elderE v r).length ≤ 310 := by
  have h := encR_len h1 h3 hr
  have : (Lib.uvarint (encR v r).length).length ≤ 10 := Lib.uvarint_length64 (by omega)
  unfold elderE
  rw [List.length_append]
  omega

theorem elder_all {v : Nat} (h1 : 1 ≤ v) (h3 : v ≤ 3) : ∀ (l : List Rec), (∀ r ∈ l, FitsR r) → elderL v (l.flatMap (elderE v)) = some (l.map (upgR v))
  | [], _ => by rw [List.flatMap_nil, elderL, dif_pos rfl]; rfl
  | r :: l, hl => by
    have hr := hl r (by simp)
    rw [List.flatMap_cons, elder_step h1 h3 hr (by have := encR_len h1 h3 hr; omega), elder_all h1 h3 l (fun s hs => hl s (by simp [hs]))]
    rfl

theorem chain_map {v : Int} : ∀ (l : List Rec) (i : Int), chainR i (l.map (upgR v)) ↔ chainR i l
  | [], _ => Iff.rfl
  | r :: l, i => by
    rw [List.map_cons, chainR, chainR, chain_map l (i + 1)]
    rfl

theorem upg3_map (l : List Rec) : l.map (upgR ((3 : Nat) : Int)) = l := by
  induction l with
  | nil => rfl
  | cons r t ih => rw [List.map_cons, ih]; rfl

theorem fitsB_of {l : List Rec} {i : Int} (h1 : 1 ≤ l.length) (h2 : l.length ≤ 16) (hf : ∀ r ∈ l, FitsR r) (hc : chainR i l) : FitsB l := by
  refine ⟨h1, by omega, hf, ?_⟩
  cases l with
  | nil => simp at h1
  | cons r t =>
    have := hc.1
    rw [List.headD_cons, this]
    exact hc

theorem recsOk_upg {v : Int} {l : List Rec} {i : Int} (h : RecsOk l i) : RecsOk (l.map (upgR v)) i := by
  refine ⟨by rw [List.length_map]; exact h.1, fun r hr => ?_, (chain_map l i).2 h.2.2⟩
  obtain ⟨s, hs, rfl⟩ := List.mem_map.1 hr
  exact upg_fits (h.2.1 s hs)

theorem dataV_upg {v : Nat} (h1 : 1 ≤ v) (h3 : v ≤ 3) (l : List Rec) : dataV v (l.map (upgR v)) = dataV v l := by
  by_cases hv : v = 3
  · subst hv
    rw [upg3_map]
  · unfold dataV
    rw [if_neg hv, if_neg hv]
    induction l with
    | nil => rfl
    | cons r t ih =>
      rw [List.map_cons, List.flatMap_cons, List.flatMap_cons, ih]
      unfold elderE
      rw [encR_upg (by omega) (by omega)]

theorem readBk_data {v : Nat} (h1 : 1 ≤ v) (h3 : v ≤ 3) {l : List Rec} {i : Int} (hl1 : 1 ≤ l.length) (hl2 : l.length ≤ 16) (h : RecsOk l i) : readBk v (dataV v l) i = some (l.map (upgR v)) := by
  have hb : (if v < 3 then elderL v (dataV v l) else decBo (dataV v l)) = some (l.map (upgR v)) := by
    by_cases hv : v = 3
    · subst hv
      rw [if_neg (by decide), upg3_map]
      unfold dataV
      rw [if_pos rfl]
      exact decBo_enc (fitsB_of hl1 hl2 h.2.1 h.2.2)
    · rw [if_pos (by omega)]
      unfold dataV
      rw [if_neg hv]
      exact elder_all h1 h3 l h.2.1
  unfold readBk
  rw [hb]
  simp only
  rw [if_pos ⟨⟨by rw [List.length_map]; exact ⟨hl1, hl2⟩, recsOk_upg h⟩, dataV_upg h1 h3 l⟩]

/-- What is read is what is written. -/
theorem readBk_is {v : Nat} {d : List UInt8} {i : Int} {l : List Rec} (h : readBk v d i = some l) : (1 ≤ l.length ∧ l.length ≤ 16) ∧ RecsOk l i ∧ dataV v l = d := by
  unfold readBk at h
  split at h
  · cases h
  · split at h
    · rename_i hh
      injection h with h
      subst h
      exact ⟨hh.1.1, hh.1.2, hh.2⟩
    · cases h

/-- What no records are written as is no block. -/
theorem readBk_no {v : Nat} {d : List UInt8} {i : Int} (h : ∀ l, 1 ≤ l.length → l.length ≤ 16 → RecsOk l i → dataV v l ≠ d) : readBk v d i = none := by
  cases hr : readBk v d i with
  | none => rfl
  | some l =>
    obtain ⟨⟨h1, h2⟩, h3, h4⟩ := readBk_is hr
    exact absurd h4 (h l h1 h2 h3)

theorem chunks_nil : chunks [] = [] := by rw [chunks, if_pos rfl]

theorem chunks_cons {l : List Rec} (h : l ≠ []) : chunks l = l.take 16 :: chunks (l.drop 16) := by rw [chunks, if_neg h]

/-- Sixteens ahead are chunks of their own. -/
theorem chunks_app : ∀ (k : Nat) (a b : List Rec), a.length = 16 * k → chunks (a ++ b) = chunks a ++ chunks b
  | 0, a, b, h => by
    have e : a = [] := List.eq_nil_of_length_eq_zero (by omega)
    rw [e, chunks_nil, List.nil_append, List.nil_append]
  | k + 1, a, b, h => by
    have ha : a ≠ [] := fun e => by rw [e] at h; simp at h
    have hab : a ++ b ≠ [] := fun e => ha (List.append_eq_nil_iff.1 e).1
    rw [chunks_cons ha, chunks_cons hab, List.take_append_of_le_length (by omega), List.drop_append_of_le_length (by omega), chunks_app k (a.drop 16) b (by rw [List.length_drop]; omega)]
    rfl

theorem chunks_few {l : List Rec} (h1 : l ≠ []) (h : l.length ≤ 16) : chunks l = [l] := by
  rw [chunks_cons h1, List.take_of_length_le h, List.drop_of_length_le h, chunks_nil]

theorem blocks_app (v k : Nat) (a b : List Rec) (h : a.length = 16 * k) : blocksS v (a ++ b) = blocksS v a ++ blocksS v b := by
  unfold blocksS
  rw [chunks_app k a b h, List.map_append]

theorem chunks_length : ∀ (n : Nat) (l : List Rec), l.length ≤ n → (chunks l).length = (l.length + 15) / 16
  | 0, l, h => by
    have e : l = [] := List.eq_nil_of_length_eq_zero (by omega)
    rw [e, chunks_nil]
    rfl
  | n + 1, l, h => by
    by_cases e : l = []
    · rw [e, chunks_nil]; rfl
    · have h0 : l.length ≠ 0 := by simpa using e
      rw [chunks_cons e, List.length_cons, chunks_length n (l.drop 16) (by rw [List.length_drop]; omega), List.length_drop]
      omega

theorem chain_app : ∀ (a b : List Rec) (i : Int), chainR i (a ++ b) ↔ chainR i a ∧ chainR (i + a.length) b
  | [], b, i => by simp [chainR]
  | r :: a, b, i => by
    rw [List.cons_append, chainR, chainR, chain_app a b (i + 1)]
    have e : i + 1 + (a.length : Int) = i + ((r :: a).length : Int) := by simp; omega
    rw [e, and_assoc]

theorem recsOk_app {a b : List Rec} {i : Int} (h : RecsOk (a ++ b) i) : RecsOk a i ∧ RecsOk b (i + a.length) := by
  obtain ⟨h1, h2, h3⟩ := h
  rw [List.length_append] at h1
  have h4 := (chain_app a b i).1 h3
  exact ⟨⟨by omega, fun r hr => h2 r (List.mem_append.2 (.inl hr)), h4.1⟩, ⟨by omega, fun r hr => h2 r (List.mem_append.2 (.inr hr)), h4.2⟩⟩

/-- The blocks of records are walked through; what stands behind them goes on. -/
theorem walkB_blocks {v : Nat} (h1 : 1 ≤ v) (h3 : v ≤ 3) (first : Int) : ∀ (n : Nat) (l acc : List Rec) , l.length ≤ n → RecsOk l (first + acc.length) → acc.length + l.length ≤ 4096 →
    walkB v first (blocksS v l) acc 16 = (acc ++ l.map (upgR v), (chunks l).length, 0)
  | 0, l, acc, hn, _, _ => by
    have e : l = [] := List.eq_nil_of_length_eq_zero (by omega)
    subst e
    unfold blocksS
    rw [chunks_nil, List.map_nil, walkB]
    simp
  | n + 1, l, acc, hn, hr, ha => by
    by_cases e : l = []
    · subst e
      unfold blocksS
      rw [chunks_nil, List.map_nil, walkB]
      simp
    have h0 : l.length ≠ 0 := by simpa using e
    have hsp : l.take 16 ++ l.drop 16 = l := List.take_append_drop 16 l
    have hr' := hr
    rw [← hsp] at hr'
    obtain ⟨ha1, hb1⟩ := recsOk_app hr'
    have hlt : (l.take 16).length = min 16 l.length := List.length_take
    have hrd := readBk_data h1 h3 (l := l.take 16) (i := first + acc.length) (by omega) (by omega) ha1
    have ec : blocksS v l = dataV v (l.take 16) :: blocksS v (l.drop 16) := by
      unfold blocksS
      rw [chunks_cons e, List.map_cons]
    rw [ec, walkB, hrd]
    simp only
    rw [if_neg (by decide), if_neg (by rw [List.length_map]; omega)]
    by_cases hd : l.drop 16 = []
    · have hs : l.length ≤ 16 := by
        have := congrArg List.length hd
        rw [List.length_drop, List.length_nil] at this
        omega
      have eb : blocksS v (l.drop 16) = [] := by
        unfold blocksS
        rw [hd, chunks_nil]
        rfl
      rw [eb, walkB]
      rw [List.take_of_length_le hs, chunks_few e hs]
      rfl
    · have hs : 16 < l.length := by
        have : 0 < (l.drop 16).length := List.length_pos_iff.2 hd
        rw [List.length_drop] at this
        omega
      have hlm : ((l.take 16).map (upgR v)).length = 16 := by rw [List.length_map]; omega
      have ih := walkB_blocks h1 h3 first n (l.drop 16) (acc ++ (l.take 16).map (upgR v)) (by rw [List.length_drop]; omega) (by
        have e2 : first + ((acc ++ (l.take 16).map (upgR v)).length : Int) = first + (acc.length : Int) + ((l.take 16).length : Int) := by
          rw [List.length_append, List.length_map]
          omega
        rw [e2]
        exact hb1) (by rw [List.length_append, hlm, List.length_drop]; omega)
      rw [hlm, ih, chunks_cons e, List.length_cons, List.append_assoc, ← List.map_append, hsp]

/-- A head is read. -/
theorem readH_head {v k f : Nat} (h1 : 1 ≤ v) (h3 : v ≤ 3) (hk : k < 6) (hf : f < 4611686018427387904) : readH (headS v k f) = .ok (v, k, f) := by
  have q1 := Lib.uvarint_pos v
  have q2 := Lib.uvarint_pos k
  have q3 := Lib.uvarint_pos f
  have d1 : dec62 ((headS v k f).drop 1) = (v, (Lib.uvarint v).length) := by
    unfold headS
    rw [List.drop_succ_cons, List.drop_zero]
    exact dec62_uvarint _ _ (by omega)
  have e2 : (headS v k f).drop (1 + (Lib.uvarint v).length) = Lib.uvarint k ++ Lib.uvarint f := by
    unfold headS
    rw [Nat.add_comm, List.drop_succ_cons, List.drop_left]
  have d2 : dec62 ((headS v k f).drop (1 + (Lib.uvarint v).length)) = (k, (Lib.uvarint k).length) := by
    rw [e2]
    exact dec62_uvarint _ _ (by omega)
  have e3 : (headS v k f).drop (1 + (Lib.uvarint v).length + (Lib.uvarint k).length) = Lib.uvarint f := by
    rw [← List.drop_drop, e2, List.drop_left]
  have d3 : dec62 ((headS v k f).drop (1 + (Lib.uvarint v).length + (Lib.uvarint k).length)) = (f, (Lib.uvarint f).length) := by
    rw [e3]
    have := dec62_uvarint f [] hf
    rw [List.append_nil] at this
    exact this
  have hl : (headS v k f).length = 1 + (Lib.uvarint v).length + (Lib.uvarint k).length + (Lib.uvarint f).length := by
    unfold headS
    simp only [List.length_cons, List.length_append]
    omega
  unfold readH
  simp only [d1, d2, d3]
  rw [if_neg (by rintro (h | h); exact absurd h (by unfold headS; simp); exact h rfl), if_neg (by omega), if_neg (by omega), if_neg (by omega)]

theorem headS_len {v k f : Nat} (h3 : v ≤ 3) (hk : k < 6) (hf : f < 4611686018427387904) : (headS v k f).length ≤ 40 := by
  have q1 : (Lib.uvarint v).length ≤ 10 := Lib.uvarint_length64 (by omega)
  have q2 : (Lib.uvarint k).length ≤ 10 := Lib.uvarint_length64 (by omega)
  have q3 : (Lib.uvarint f).length ≤ 10 := Lib.uvarint_length64 (by omega)
  unfold headS
  simp only [List.length_cons, List.length_append]
  omega

end Go.Proofs.YtddhcohjmgdajabDoor

/- More of frames, over plain lists. -/
namespace Go.Proofs.YtddhcohjmgdajabDoor

theorem frameOf_len6 {d : List UInt8} (h : d.length ≤ 1048576) : (frameOf d).length ≤ d.length + 14 := by
  rw [frameOf_length]
  have : (Lib.uvarint d.length).length ≤ 10 := Lib.uvarint_length64 (by omega)
  omega

theorem framesOf_app (A B : List (List UInt8)) : framesOf (A ++ B) = framesOf A ++ framesOf B := by
  unfold framesOf
  rw [List.flatMap_append]

theorem framesOf_cons (x : List UInt8) (B : List (List UInt8)) : framesOf (x :: B) = frameOf x ++ framesOf B := by
  unfold framesOf
  rw [List.flatMap_cons]

theorem frameOf_pos (x : List UInt8) : 5 ≤ (frameOf x).length := by
  rw [frameOf_length]
  have := Lib.uvarint_pos x.length
  omega

theorem wholeF_frames (L : List (List UInt8)) (h : ∀ x ∈ L, x.length ≤ 1048576) : wholeF (framesOf L) = (L, (framesOf L).length, 0) := by
  have e := wholeF_cut L (framesOf L).length h (Nat.le_refl _)
  have hw := wholes_at L (framesOf L).length L.length (Nat.le_refl _) (by rw [List.take_length]; exact Nat.le_refl _) (.inl rfl)
  rw [List.take_length] at hw e
  rw [e, hw]
  simp

theorem wholeF_all : ∀ (n : Nat) (b : List UInt8), b.length ≤ n → (wholeF b).2.2 = 0 → framesOf (wholeF b).1 = b ∧ ∀ x ∈ (wholeF b).1, x.length ≤ 1048576
  | 0, b, hn, _ => by
    have e : b = [] := List.eq_nil_of_length_eq_zero (by omega)
    subst e
    rw [wholeF_nil]
    exact ⟨rfl, by simp⟩
  | n + 1, b, hn, h => by
    by_cases e : b = []
    · subst e
      rw [wholeF_nil]
      exact ⟨rfl, by simp⟩
    by_cases hd : (decF b).2.2 = 0
    · obtain ⟨d1, d2, d3, d4⟩ := decF_ok hd
      have h5 := decF_five hd
      rw [wholeF_step e hd] at h ⊢
      obtain ⟨i1, i2⟩ := wholeF_all n (b.drop (decF b).2.1) (by rw [List.length_drop]; omega) h
      refine ⟨?_, fun x hx => ?_⟩
      · show framesOf ((decF b).1 :: (wholeF (b.drop (decF b).2.1)).1) = b
        rw [framesOf_cons, i1, ← d4, List.take_append_drop]
      · rcases List.mem_cons.1 hx with hx | hx
        · rw [hx]; exact d1
        · exact i2 x hx
    · rw [wholeF_stop e hd] at h
      exact absurd h hd

end Go.Proofs.YtddhcohjmgdajabDoor

