import Derived.Test.YtgpdbboieokldaaOpenObjs
import Derived.Test.YtgpdbboieokldaaRef06A
import Derived.Test.YtgpdbboieokldaaPack2
import Derived.Test.YtgpdbboieokldaaPack3
import Derived.Deep.Slices
import Derived.Test.YtgpdbboieokldaaPack6
import Derived.Test.YtgpdbboieokldaaObjsLib
import Derived.Test.YtgpdbboieokldaaPack5
/- Records that came in. -/
namespace Go.Proofs.Ytgpdbboieokldaa
open Go.RowKit Go.ChangeShapes

set_option maxRecDepth 100000 in
theorem cells_rec : Try.prog.cellsOf 64 = 7 := by kernel_rfl

section
variable {H : Type} {enc : TypeId × Value → H} {w : World} {base fuel : Nat} {held : Bool}

set_option maxRecDepth 100000 in
/-- The cells of a record. -/
theorem open_rec_cells {cs : List Value} {x : DataW H × List MemPlace} (h : DataW.trod enc Try.prog w base (fun _ => true) held fuel 64 cs = some x) :
    ∃ (r : Rec), cs = [.int .i64 r.idx, .int .i64 r.proc, .int .i64 r.seq, .int .i64 r.op.code, .int .i64 r.op.a, .int .i64 r.op.b, .int .i64 r.resp] ∧ RecOk r := by
  obtain ⟨xs, n, _, _, hl, hxl, hf⟩ := DataW.trod_struct Try.underlying64 h
  rw [cells_rec] at hl
  match xs, hxl, cs, hl with
  | [y0, y1, y2, y3, y4], _, [c0, c1, c2, c3, c4, c5, c6], _ =>
    have g0 := hf 0 _ rfl
    have g1 := hf 1 _ rfl
    have g2 := hf 2 _ rfl
    have g3 := hf 3 _ rfl
    have g4 := hf 4 _ rfl
    simp [cells_int, cells_op] at g0 g1 g2 g3 g4
    obtain ⟨i, hi, _, wi⟩ := DataW.trod_int Try.underlying3 g0
    obtain ⟨p, hp, _, wp⟩ := DataW.trod_int Try.underlying3 g1
    obtain ⟨s, hs, _, ws⟩ := DataW.trod_int Try.underlying3 g2
    obtain ⟨o, ho, ok⟩ := open_op_cells g3
    obtain ⟨e, he, _, we⟩ := DataW.trod_int Try.underlying3 g4
    simp only [List.cons.injEq, and_true] at hi hp hs ho he
    obtain ⟨rfl, rfl, rfl⟩ := ho
    subst hi hp hs he
    exact ⟨⟨i, p, s, o, e⟩, rfl, i64_of_wf wi, i64_of_wf wp, i64_of_wf ws, ok, i64_of_wf we⟩

set_option maxRecDepth 100000 in
/-- A record that came in. -/
theorem open_rec {r : Reach} {b0 : Nat} {v : Value} {d : DataW H} {p : List MemPlace} (hval : Value.okWide Try.prog w r b0 64 v) (h : DataW.Trod enc Try.prog w base (fun _ => true) held 64 v d p) : ∃ r, v = recV r ∧ RecOk r := by
  obtain ⟨cs, rfl, hsz⟩ := Go.WideShapes.okWide_struct Try.underlying64 hval
  obtain ⟨fuel, hf⟩ := h
  obtain ⟨o, hcs, hok⟩ := open_rec_cells hf
  refine ⟨o, ?_, hok⟩
  simp [Value.cells] at hcs
  exact congrArg Value.agg (Array.ext' hcs)

end

end Go.Proofs.Ytgpdbboieokldaa

/- Blocks of records as bytes, over plain lists, and what follows. -/
namespace Go.Proofs.Ytgpdbboieokldaa

/-- The Seq of the last record that has a process; 0: there is none. -/
def lastSeq (l : List Rec) (p : Int) : Int := l.foldl (fun a r => if r.proc = p then r.seq else a) 0

theorem lastSeq_snoc (l : List Rec) (r : Rec) (p : Int) : lastSeq (l ++ [r]) p = if r.proc = p then r.seq else lastSeq l p := by
  unfold lastSeq
  rw [List.foldl_append]
  rfl

theorem lastSeq_nil (p : Int) : lastSeq [] p = 0 := rfl

theorem lastSeq_bd {l : List Rec} (p : Int) : (∀ r ∈ l, FitsR r) → 0 ≤ lastSeq l p ∧ lastSeq l p < 4611686018427387904 := by
  unfold lastSeq
  suffices h : ∀ (l : List Rec) (a : Int), (∀ r ∈ l, FitsR r) → 0 ≤ a → a < 4611686018427387904 → 0 ≤ l.foldl (fun a r => if r.proc = p then r.seq else a) a ∧ l.foldl (fun a r => if r.proc = p then r.seq else a) a < 4611686018427387904 by
    exact fun hl => h l 0 hl (by decide) (by decide)
  intro l
  induction l with
  | nil => intro a _ h0 h1; exact ⟨h0, h1⟩
  | cons r t ih =>
    intro a hf h0 h1
    rw [List.foldl_cons]
    have hr := hf r (by simp)
    obtain ⟨_, _, _, hs0, hs1, _⟩ := hr
    by_cases hp : r.proc = p
    · rw [if_pos hp]
      exact ih _ (fun s hs => hf s (by simp [hs])) hs0 hs1
    · rw [if_neg hp]
      exact ih _ (fun s hs => hf s (by simp [hs])) h0 h1

/-- A record behind others, as bytes. -/
def encOne (pre : List Rec) (r : Rec) : List UInt8 :=
  Lib.uvarint r.proc.toNat ++ (Lib.uvarint (Lib.zigzag (r.seq - lastSeq pre r.proc)) ++ (putOpL r.op ++ Lib.uvarint (Lib.zigzag r.resp)))

/-- Records behind others, as bytes. -/
def encRs (pre : List Rec) : List Rec → List UInt8
  | [] => []
  | r :: t => encOne pre r ++ encRs (pre ++ [r]) t

/-- A block's bytes. -/
def encB (l : List Rec) : List UInt8 := Lib.uvarint (l.headD zeroR).idx.toNat ++ (Lib.uvarint l.length ++ encRs [] l)

/-- Is each Index one more than the one ahead? -/
def chainR : Int → List Rec → Prop
  | _, [] => True
  | i, r :: t => r.idx = i ∧ chainR (i + 1) t

instance chainR_dec : ∀ (i : Int) (l : List Rec), Decidable (chainR i l)
  | _, [] => .isTrue trivial
  | i, r :: t => by
    unfold chainR
    exact @instDecidableAnd _ _ _ (chainR_dec (i + 1) t)

/-- May records stand in a block? -/
def FitsB (l : List Rec) : Prop := 1 ≤ l.length ∧ l.length ≤ 256 ∧ (∀ r ∈ l, FitsR r) ∧ chainR (l.headD zeroR).idx l

instance (l : List Rec) : Decidable (FitsB l) := by unfold FitsB; infer_instance

theorem encRs_app : ∀ (a b pre : List Rec), encRs pre (a ++ b) = encRs pre a ++ encRs (pre ++ a) b
  | [], b, pre => by simp [encRs]
  | r :: t, b, pre => by
    have e : pre ++ [r] ++ t = pre ++ r :: t := by simp
    rw [List.cons_append, encRs, encRs_app t b, e, encRs]
    exact (List.append_assoc _ _ _).symm

theorem encRs_snoc (l : List Rec) (k : Nat) (hk : k < l.length) : encRs [] (l.take (k + 1)) = encRs [] (l.take k) ++ encOne (l.take k) (l.getD k zeroR) := by
  have e : l.take (k + 1) = l.take k ++ [l.getD k zeroR] := by
    rw [List.take_add_one]
    simp [List.getD, hk]
  rw [e, encRs_app]
  simp [encRs]

/-- The record that bytes begin with, behind others, and how many bytes it has. -/
def oneL (pre : List Rec) (b : List UInt8) : Rec × Nat :=
  let i := (dec62 b).2
  let j := (dec64 (b.drop i)).2
  let k := (getOpL (b.drop (i + j))).2
  let m := (dec64 (b.drop (i + j + k))).2
  if i = 0 ∨ j = 0 ∨ k = 0 ∨ m = 0 then (zeroR, 0)
  else (⟨0, (dec62 b).1, IntKind.i64.wrap (lastSeq pre (dec62 b).1 + zag (dec64 (b.drop i)).1), (getOpL (b.drop (i + j))).1, zag (dec64 (b.drop (i + j + k))).1⟩, i + j + k + m)

theorem wrap_id {n : Int} (h : I64 n) : IntKind.i64.wrap n = n := by
  obtain ⟨h0, h1⟩ := h
  rw [IntKind.wrap_i64]
  omega

theorem diff_i64 {l : List Rec} (hl : ∀ r ∈ l, FitsR r) {r : Rec} (hr : FitsR r) : I64 (r.seq - lastSeq l r.proc) := by
  obtain ⟨h0, h1⟩ := lastSeq_bd r.proc hl
  obtain ⟨_, _, _, hs0, hs1, _⟩ := hr
  exact ⟨by omega, by omega⟩

theorem one_enc {pre : List Rec} (hl : ∀ r ∈ pre, FitsR r) {r : Rec} (hr : FitsR r) (t : List UInt8) : oneL pre (encOne pre r ++ t) = ({ r with idx := 0 }, (encOne pre r).length) := by
  have hd := diff_i64 hl hr
  have hresp := fitsR_resp hr
  obtain ⟨ho, _, _, hs0, hs1, hp0, hp1, _⟩ := id hr
  have E : encOne pre r ++ t = Lib.uvarint r.proc.toNat ++ (Lib.uvarint (Lib.zigzag (r.seq - lastSeq pre r.proc)) ++ (putOpL r.op ++ (Lib.uvarint (Lib.zigzag r.resp) ++ t))) := by
    unfold encOne
    simp only [List.append_assoc]
  have d1 := dec62_uvarint r.proc.toNat (Lib.uvarint (Lib.zigzag (r.seq - lastSeq pre r.proc)) ++ (putOpL r.op ++ (Lib.uvarint (Lib.zigzag r.resp) ++ t))) (by omega)
  rw [← E] at d1
  have e1 : (encOne pre r ++ t).drop (Lib.uvarint r.proc.toNat).length = Lib.uvarint (Lib.zigzag (r.seq - lastSeq pre r.proc)) ++ (putOpL r.op ++ (Lib.uvarint (Lib.zigzag r.resp) ++ t)) := by rw [E, List.drop_left]
  have d2 := dec64_uvarint (Lib.zigzag (r.seq - lastSeq pre r.proc)) (putOpL r.op ++ (Lib.uvarint (Lib.zigzag r.resp) ++ t)) (zig_lt hd)
  have e2 : (encOne pre r ++ t).drop ((Lib.uvarint r.proc.toNat).length + (Lib.uvarint (Lib.zigzag (r.seq - lastSeq pre r.proc))).length) = putOpL r.op ++ (Lib.uvarint (Lib.zigzag r.resp) ++ t) := by rw [← List.drop_drop, e1, List.drop_left]
  have d3 := getOp_put r.op ho (Lib.uvarint (Lib.zigzag r.resp) ++ t)
  have e3 : (encOne pre r ++ t).drop ((Lib.uvarint r.proc.toNat).length + (Lib.uvarint (Lib.zigzag (r.seq - lastSeq pre r.proc))).length + (putOpL r.op).length) = Lib.uvarint (Lib.zigzag r.resp) ++ t := by rw [← List.drop_drop, e2, List.drop_left]
  have d4 := dec64_uvarint (Lib.zigzag r.resp) t (zig_lt hresp)
  have n1 := uv_ne r.proc.toNat
  have n2 := uv_ne (Lib.zigzag (r.seq - lastSeq pre r.proc))
  have n4 := uv_ne (Lib.zigzag r.resp)
  have n3 : (putOpL r.op).length ≠ 0 := by
    unfold putOpL
    have := uv_ne r.op.code.toNat
    rw [List.length_append]
    omega
  unfold oneL
  simp only [d1, e1, d2, e2, d3, e3, d4]
  rw [if_neg (by rintro (h | h | h | h); exact n1 h; exact n2 h; exact n3 h; exact n4 h)]
  have hpn : ((r.proc.toNat : Nat) : Int) = r.proc := by omega
  rw [hpn, zag_zigzag _ hd.1 hd.2, zag_zigzag _ hresp.1 hresp.2]
  have hw : lastSeq pre r.proc + (r.seq - lastSeq pre r.proc) = r.seq := by omega
  rw [hw, wrap_id ⟨by omega, by omega⟩]
  congr 1
  unfold encOne
  simp only [List.length_append]
  omega

theorem uv_inj62 {a b : Nat} (ha : a < 4611686018427387904) (hb : b < 4611686018427387904) {x y : List UInt8} (h : Lib.uvarint a ++ x = Lib.uvarint b ++ y) : a = b ∧ x = y := by
  have d1 := dec62_uvarint a x ha
  have d2 := dec62_uvarint b y hb
  rw [h, d2] at d1
  have e := (Prod.mk.injEq ..).mp d1
  have hab : a = b := e.1.symm
  subst hab
  exact ⟨rfl, List.append_cancel_left h⟩

/-- Of two lists neither's bytes begin the other's. -/
theorem encRs_inj : ∀ (l l' pre : List Rec) (i : Int) (t : List UInt8), l.length = l'.length → chainR i l → chainR i l' → (∀ r ∈ pre, FitsR r) → (∀ r ∈ l, FitsR r) → (∀ r ∈ l', FitsR r) → encRs pre l' = encRs pre l ++ t → l' = l ∧ t = []
  | [], [], pre, i, t, _, _, _, _, _, _, h => ⟨rfl, by simpa [encRs] using h.symm⟩
  | r :: u, r' :: u', pre, i, t, hlen, hc, hc', hp, hf, hf', h => by
    have hr := hf r (by simp)
    have hr' := hf' r' (by simp)
    have h1 := one_enc hp hr (encRs (pre ++ [r]) u ++ t)
    have h2 := one_enc hp hr' (encRs (pre ++ [r']) u')
    have hh : encOne pre r' ++ encRs (pre ++ [r']) u' = encOne pre r ++ (encRs (pre ++ [r]) u ++ t) := by
      rw [encRs, encRs] at h
      rw [h, List.append_assoc]
    rw [hh, h1] at h2
    have hs := ((Prod.mk.injEq ..).mp h2).1
    have hri : r.idx = r'.idx := by rw [hc.1, hc'.1]
    have hrr : r' = r := by
      obtain ⟨i1, p1, s1, o1, e1⟩ := r
      obtain ⟨i2, p2, s2, o2, e2⟩ := r'
      simp only [Rec.mk.injEq, true_and] at hs hri ⊢
      obtain ⟨h1, h2, h3, h4⟩ := hs
      exact ⟨hri.symm, h1.symm, h2.symm, h3.symm, h4.symm⟩
    subst hrr
    have hrest : encRs (pre ++ [r']) u' = encRs (pre ++ [r']) u ++ t := List.append_cancel_left hh
    obtain ⟨q1, q2⟩ := encRs_inj u u' (pre ++ [r']) (i + 1) t (by simpa using hlen) hc.2 hc'.2 (fun s hs => by
      rcases List.mem_append.1 hs with h | h
      · exact hp s h
      · simp at h; rw [h]; exact hr) (fun s hs => hf s (by simp [hs])) (fun s hs => hf' s (by simp [hs])) hrest
    exact ⟨by rw [q1], q2⟩

theorem encB_inj {l l' : List Rec} (hl : FitsB l) (hl' : FitsB l') {t : List UInt8} (h : encB l' = encB l ++ t) : l' = l ∧ t = [] := by
  obtain ⟨n1, n2, hf, hc⟩ := hl
  obtain ⟨n1', n2', hf', hc'⟩ := hl'
  unfold encB at h
  simp only [List.append_assoc] at h
  have hm : ∀ l : List Rec, 1 ≤ l.length → l.headD zeroR ∈ l := fun l h => by
    match l, h with
    | r :: u, _ => simp
  obtain ⟨_, i0, i1, _⟩ := hf _ (hm l n1)
  obtain ⟨_, j0, j1, _⟩ := hf' _ (hm l' n1')
  obtain ⟨k1, k2⟩ := uv_inj62 (by omega) (by omega) h
  obtain ⟨k3, k4⟩ := uv_inj62 (by omega) (by omega) k2
  have hidx : (l.headD zeroR).idx = (l'.headD zeroR).idx := by omega
  rw [← hidx] at hc'
  exact encRs_inj l l' [] _ t (by omega) hc hc' (fun r hr => by simp at hr) hf hf' k4

theorem encB_apart {l l' : List Rec} (hl : FitsB l) (hl' : FitsB l') : encB l = encB l' ↔ l = l' := by
  constructor
  · intro h
    exact (encB_inj hl' hl (t := []) (by rw [List.append_nil]; exact h)).1
  · intro h
    rw [h]

theorem encB_cut {l l' : List Rec} (hl : FitsB l) (hl' : FitsB l') {n : Nat} (hn : n < (encB l).length) : encB l' ≠ (encB l).take n := by
  intro h
  have h2 : encB l = encB l' ++ (encB l).drop n := by rw [h, List.take_append_drop]
  obtain ⟨_, h3⟩ := encB_inj hl' hl h2
  have h4 := congrArg List.length h3
  rw [List.length_drop] at h4
  simp at h4
  omega

theorem encB_more {l l' : List Rec} (hl : FitsB l) (hl' : FitsB l') {t : List UInt8} (ht : t ≠ []) : encB l' ≠ encB l ++ t := fun h => ht (encB_inj hl hl' h).2

theorem encB_ne {l : List Rec} : encB l ≠ [] := by
  unfold encB
  intro h
  have := congrArg List.length h
  have h2 := uv_ne (l.headD zeroR).idx.toNat
  simp only [List.length_append, List.length_nil] at this
  omega

/-- What bytes are: the records of which they are the bytes, or none and ErrForm. -/
def DecB (b : List UInt8) (l : List Rec) (e : Int) : Prop := (e = 0 ∧ FitsB l ∧ encB l = b) ∨ (e = 3 ∧ l = [] ∧ ∀ l', FitsB l' → encB l' ≠ b)

theorem DecB.unique {b : List UInt8} {l l' : List Rec} {e e' : Int} (h : DecB b l e) (h' : DecB b l' e') : l = l' ∧ e = e' := by
  rcases h with ⟨h1, h2, h3⟩ | ⟨h1, h2, h3⟩
  · rcases h' with ⟨k1, k2, k3⟩ | ⟨k1, k2, k3⟩
    · exact ⟨(encB_apart h2 k2).1 (h3.trans k3.symm), by omega⟩
    · exact absurd h3 (k3 l h2)
  · rcases h' with ⟨k1, k2, k3⟩ | ⟨k1, k2, k3⟩
    · exact absurd k3 (h3 l' k2)
    · exact ⟨by rw [h2, k2], by omega⟩

end Go.Proofs.Ytgpdbboieokldaa

/- Slices of records in memory: what one reads ('RdR'), what a call owns ('OwnR'), and append onto them. -/
namespace Go.Proofs.Ytgpdbboieokldaa
open Go.RowKit

/-- A record's seven cells. -/
def RecAt (w : World) (b o : Nat) (r : Rec) : Prop :=
  w.cell? ⟨b, o, none⟩ = some (.int .i64 r.idx) ∧ w.cell? ⟨b, o + 1, none⟩ = some (.int .i64 r.proc) ∧ w.cell? ⟨b, o + 2, none⟩ = some (.int .i64 r.seq) ∧ w.cell? ⟨b, o + 3, none⟩ = some (.int .i64 r.op.code) ∧ w.cell? ⟨b, o + 4, none⟩ = some (.int .i64 r.op.a) ∧ w.cell? ⟨b, o + 5, none⟩ = some (.int .i64 r.op.b) ∧ w.cell? ⟨b, o + 6, none⟩ = some (.int .i64 r.resp)

set_option maxRecDepth 100000 in
theorem RecAt.lt {w : World} {b o : Nat} {r : Rec} (h : RecAt w b o r) : b < w.heap.size := World.block_lt_of_cell? w ⟨b, o, none⟩ h.1

set_option maxRecDepth 100000 in
theorem RecAt.keep {w w' : World} {b o : Nat} {r : Rec} (h : RecAt w b o r) (hk : w'.heap[b]? = w.heap[b]?) : RecAt w' b o r := by
  have hc : ∀ i, w'.cell? ⟨b, i, none⟩ = w.cell? ⟨b, i, none⟩ := fun i => World.cell?_of_block (a := ⟨b, i, none⟩) hk
  unfold RecAt at h ⊢
  simp only [hc]
  exact h

/-- The slice value v reads, in the world w, as the records l. -/
def RdR (w : World) (v : Value) (l : List Rec) : Prop :=
  ∃ ao cap, v = .slice ao l.length cap ∧ l.length ≤ cap ∧ cap ≤ maxLen ∧ (ao = none → cap = 0) ∧ (∀ r ∈ l, RecOk r) ∧
    (l = [] ∨ ∃ b off, ao = some ⟨b, off, none⟩ ∧ ∀ j, j < l.length → RecAt w b (off + j * 7) (l.getD j zeroR))

set_option maxRecDepth 100000 in
theorem RdR.nil (w : World) : RdR w (.slice none 0 0) [] := ⟨none, 0, rfl, Nat.le_refl _, Nat.zero_le _, fun _ => rfl, (fun r h => by simp at h), .inl rfl⟩

set_option maxRecDepth 100000 in
theorem RdR.below {w w' : World} {v : Value} {l : List Rec} (h : RdR w v l) {B : Nat} (hb : Below B w w') (hB : w.heap.size ≤ B) : RdR w' v l := by
  obtain ⟨ao, cap, h1, h2, h3, hn, hw, h4⟩ := h
  refine ⟨ao, cap, h1, h2, h3, hn, hw, ?_⟩
  rcases h4 with h4 | ⟨b, off, h5, h6⟩
  · exact .inl h4
  · refine .inr ⟨b, off, h5, fun j hj => ?_⟩
    have h7 := h6 j hj
    exact h7.keep (hb.block b (by have := h7.lt; omega))

set_option maxRecDepth 100000 in
theorem RdR.front {w : World} {ao : Option Addr} {n cap : Nat} {l : List Rec} (h : RdR w (.slice ao n cap) l) (k : Nat) (hk : k ≤ l.length) : RdR w (.slice ao k cap) (l.take k) := by
  obtain ⟨ao', cap', hv, h1, h2, h3, hw, h4⟩ := h
  simp only [Value.slice.injEq] at hv
  obtain ⟨rfl, _, rfl⟩ := hv
  have hlen : (l.take k).length = k := by simp; omega
  refine ⟨ao, cap, by rw [hlen], by omega, h2, h3, fun r hr => hw r (List.mem_of_mem_take hr), ?_⟩
  rcases h4 with h4 | ⟨b, off, h5, h6⟩
  · exact .inl (by rw [h4]; simp)
  · refine .inr ⟨b, off, h5, fun j hj => ?_⟩
    have hj2 : j < k := by omega
    have e : (l.take k).getD j zeroR = l.getD j zeroR := by simp [List.getD, hj2]
    rw [e]
    exact h6 j (by omega)

/-- The cells of records. -/
def recCells : List Rec → List Value
  | [] => []
  | r :: t => (recC r).toList ++ recCells t

set_option maxRecDepth 100000 in
theorem recCells_length : ∀ l : List Rec, (recCells l).length = l.length * 7
  | [] => rfl
  | r :: t => by
    rw [recCells, List.length_append, recCells_length t, List.length_cons]
    simp [recC]
    omega

set_option maxRecDepth 100000 in
theorem recCells_app : ∀ a b : List Rec, recCells (a ++ b) = recCells a ++ recCells b
  | [], _ => rfl
  | r :: t, b => by rw [List.cons_append, recCells, recCells_app t b, recCells, List.append_assoc]

set_option maxRecDepth 100000 in
theorem recCells_get : ∀ (l : List Rec) (j k : Nat), j < l.length → k < 7 → (recCells l)[j * 7 + k]? = (recC (l.getD j zeroR))[k]?
  | r :: t, 0, k, _, hk => by
    rw [recCells, Nat.zero_mul, Nat.zero_add, List.getElem?_append_left (by simp [recC]; omega)]
    simp [List.getD]
  | r :: t, j + 1, k, hj, hk => by
    have e : (j + 1) * 7 + k = (recC r).toList.length + (j * 7 + k) := by simp [recC]; omega
    rw [recCells, e, List.getElem?_append_right (by omega), Nat.add_sub_cancel_left, recCells_get t j k (by simpa using hj) hk]
    simp [List.getD]

set_option maxRecDepth 100000 in
theorem recCells_one (l : List Rec) : ∀ u ∈ recCells l, u.oneCell' = true := by
  induction l with
  | nil => intro u hu; simp [recCells] at hu
  | cons r t ih =>
    intro u hu
    rw [recCells] at hu
    rcases List.mem_append.1 hu with h | h
    · simp [recC] at h
      rcases h with rfl | rfl | rfl | rfl | rfl | rfl | rfl <;> rfl
    · exact ih u h

/-- The slice value v lies at the head of a row of its own, from block B on, that holds the records l. -/
def OwnR (w : World) (B : Nat) (v : Value) (l : List Rec) : Prop := w.ownsRow B 64 7 v l.length (recCells l)

set_option maxRecDepth 100000 in
theorem OwnR.nil (w : World) (B : Nat) : OwnR w B (.slice none 0 0) [] := World.ownsRow_nil w B 64 7

set_option maxRecDepth 100000 in
theorem OwnR.rd {w : World} {B : Nat} {v : Value} {l : List Rec} (h : OwnR w B v l) (hw : ∀ r ∈ l, RecOk r) : RdR w v l := by
  rcases h.2 with ⟨hv, hn⟩ | ⟨g, cap, cur, hv, hb, hg, hnc, hcm, hcs, htake⟩
  · exact ⟨none, 0, by rw [hv, hn], by omega, Nat.zero_le _, fun _ => rfl, hw, .inl (List.eq_nil_of_length_eq_zero hn)⟩
  · refine ⟨some ⟨g, 0, none⟩, cap, hv, hnc, hcm, (fun e => by cases e), hw, .inr ⟨g, 0, rfl, fun j hj => ?_⟩⟩
    have hc : ∀ k u, k < 7 → (recC (l.getD j zeroR))[k]? = some u → w.cell? ⟨g, 0 + j * 7 + k, none⟩ = some u := fun k u hk hu => by
      have := World.ownsRow.cells h (g := g) (by rw [hv]; rfl) (j * 7 + k) u ((recCells_get l j k hj hk).trans hu)
      rw [Addr.add_lit] at this
      rw [Nat.add_assoc]
      exact this
    exact ⟨hc 0 _ (by decide) rfl, hc 1 _ (by decide) rfl, hc 2 _ (by decide) rfl, hc 3 _ (by decide) rfl, hc 4 _ (by decide) rfl, hc 5 _ (by decide) rfl, hc 6 _ (by decide) rfl⟩

set_option maxRecDepth 100000 in
theorem OwnR.below {w w' : World} {B B' : Nat} {v : Value} {l : List Rec} (h : OwnR w B v l) (hb : Below B' w w') (hB : w.heap.size ≤ B') : OwnR w' B v l := by
  obtain ⟨h1, h2⟩ := h
  refine ⟨h1, ?_⟩
  rcases h2 with h2 | ⟨g, cap, cur, hv, hbg, hg, r⟩
  · exact .inl h2
  · have hlt : g < w.heap.size := (Array.getElem?_eq_some_iff.1 hg).1
    exact .inr ⟨g, cap, cur, hv, hbg, by rw [hb.block g (by omega)]; exact hg, r⟩

set_option maxRecDepth 100000 in
theorem OwnR.mono {w : World} {B B' : Nat} {v : Value} {l : List Rec} (h : OwnR w B v l) (hB : B' ≤ B) : OwnR w B' v l := by
  obtain ⟨h1, h2⟩ := h
  refine ⟨h1, ?_⟩
  rcases h2 with h2 | ⟨g, cap, cur, hv, hb, r⟩
  · exact .inl h2
  · exact .inr ⟨g, cap, cur, hv, by omega, r⟩

set_option maxRecDepth 100000 in
theorem OwnR.shape {w : World} {B : Nat} {v : Value} {l : List Rec} (h : OwnR w B v l) : ∃ ao cap, v = .slice ao l.length cap := by
  rcases h.2 with ⟨hv, hn⟩ | ⟨g, cap, cur, hv, _⟩
  · exact ⟨none, 0, by rw [hv, hn]⟩
  · exact ⟨_, _, hv⟩

set_option maxRecDepth 100000 in
theorem info_rec : (Try.prog.info? 64).map (fun i => (i.zero, i.size, i.bytes)) = some (some (.agg #[.int .i64 0, .int .i64 0, .int .i64 0, .int .i64 0, .int .i64 0, .int .i64 0, .int .i64 0]), 7, 56) := by kernel_rfl

set_option maxRecDepth 100000 in
/-- One more record behind a row of one's own. -/
theorem run_append_rec (w : World) (ty : TypeId) (B : Nat) (v : Value) (l : List Rec) (h : OwnR w B v l) (r : Rec) (hlim : l.length ≤ 1000000) (hbase : B ≤ w.heap.size) :
    ∃ v' w', (Builtin.append_ #[46, 46] ty #[v, .slice (some ⟨w.heap.size, 0, none⟩) 1 1]).run Try.prog (w.alloc (.cells (recC r) 64)) = .ok v' w' ∧ OwnR w' B v' (l ++ [r]) ∧ Below B w w' := by
  obtain ⟨i0, hi, hz0, hz1, hz2⟩ := info_parts info_rec
  obtain ⟨v', w', hrun, ho, hg, _⟩ := run_append_own (P := Try.prog) (w.alloc (.cells (recC r) 64)) B 46 ty 64 i0 _ 7 56 Try.underlying46 hi hz0 hz1 hz2 rfl (by decide) v l.length (recCells l) (h.alloc _)
    ⟨w.heap.size, 0, none⟩ 1 1 (recCells [r]) (recCells_length [r]) (fun j u hj => by
      rw [Addr.add_lit, Nat.zero_add, cell_of_row _ w.heap.size j _ 64 (0, 0) (heap_alloc_new w _)]
      simpa [recCells] using hj) (recCells_one [r]) (by unfold maxLen; omega) (by omega) (by simp; omega)
  refine ⟨v', w', hrun, ?_, ?_⟩
  · unfold OwnR
    rw [List.length_append, recCells_app]
    exact ho
  · exact ((Below.refl _ _).alloc hbase _).grown hg (by simp; omega) (fun k hk => (World.ownsRow.lt h k hk).1)

set_option maxRecDepth 100000 in
theorem wpList_append_rec (w : World) {ops : Array Oper} {rest : List Oper} {o : Oper} {a : Act} {Q : Exit → Act → World → Prop} (hgd : o.guard = none) (s x : Operand)
    (ho : o.op = .call { callee := .builtin .append, args := #[s, x], argTypes := #[46, 46] })
    (B : Nat) (v : Value) (l : List Rec) (hs : a.eval s = v) (hown : OwnR w B v l) (r : Rec) (hx : a.eval x = .slice (some ⟨w.heap.size, 0, none⟩) 1 1)
    (hlim : l.length ≤ 1000000) (hbase : B ≤ w.heap.size)
    (h : ∀ v' w', OwnR w' B v' (l ++ [r]) → Below B w w' → wpList Try.prog ops Q rest (a.put o.dst v') w') : wpList Try.prog ops Q (o :: rest) a (w.alloc (.cells (recC r) 64)) :=
  wpList_plain hgd fun _ hK => by
    obtain ⟨v', w', hrun, h2, h3⟩ := run_append_rec w o.type B v l hown r hlim hbase
    unfold Oper.wp execOp
    simp only [ho, resolve, invoke, builtin, Sem.run_bind, Sem.run_pure, Result.andThen_ok, List.map_toArray, List.map_cons, List.map_nil, hs, hx, hrun]
    exact hK _ _ (h v' w' h2 h3)

set_option maxRecDepth 100000 in
theorem elem_recs : Try.prog.elem 46 = 64 := by kernel_rfl

set_option maxRecDepth 100000 in
theorem under_recs : Try.prog.underlying 46 = some (.slice (Try.prog.elem 46)) := by rw [elem_recs]; exact Try.underlying46

set_option maxRecDepth 100000 in
theorem size_rec (w : World) : (sizeOf 64).run Try.prog w = .ok 7 w := by
  obtain ⟨i0, hi, _, hz1, _⟩ := info_parts info_rec
  simp [sizeOf, typeInfo, hi, hz1]

set_option maxRecDepth 100000 in
/-- The first records of a slice. -/
theorem run_front_recs (W : World) (ao : Option Addr) (n cap : Nat) (i : Int) (k : Nat) (hi : i = (k : Int)) (hk : k ≤ cap) :
    (Instr.sliceAt 46 (.slice ao n cap) none (some (.int .i64 i)) none).run Try.prog W = .ok (.slice ao k cap) W := by
  subst hi
  rw [run_sliceAt_slice W 46 _ _ _ _ under_recs, run_slice_h W 46 ao n cap under_recs .i64 (k : Int) (by omega) (by omega), elem_recs, size_rec]
  have e : sliced ao 0 k cap 7 = .slice ao k cap := by
    unfold sliced
    cases ao <;> simp [Addr.add]
  simp [e]

end Go.Proofs.Ytgpdbboieokldaa

/- Lists of records that came in. -/
namespace Go.Proofs.Ytgpdbboieokldaa
open Go.RowKit Go.ChangeShapes

set_option maxRecDepth 100000 in
theorem choose_recs {m : Nat} {p : Nat → Rec → Prop} (h : ∀ i, i < m → ∃ o, p i o) : ∃ L : List Rec, L.length = m ∧ ∀ i, i < m → p i (L.getD i zeroR) := by
  induction m with
  | zero => exact ⟨[], rfl, fun i hi => by omega⟩
  | succ m ih =>
    obtain ⟨L, hL, hp⟩ := ih (fun i hi => h i (by omega))
    obtain ⟨o, ho⟩ := h m (by omega)
    refine ⟨L ++ [o], by simp [hL], fun i hi => ?_⟩
    by_cases e : i < m
    · have e2 : (L ++ [o]).getD i zeroR = L.getD i zeroR := by simp [List.getD, List.getElem?_append_left (show i < L.length by omega)]
      rw [e2]
      exact hp i e
    · have e3 : i = L.length := by omega
      subst e3
      have e2 : (L ++ [o]).getD L.length zeroR = o := by simp [List.getD]
      rw [e2, hL]
      exact ho

set_option maxRecDepth 100000 in
/-- Records that came in. -/
theorem open_recs {H : Type} {enc : TypeId × Value → H} {w : World} {base fuel : Nat} {held : Bool} {cs : List Value} {x : DataW H × List MemPlace} (h : DataW.trod enc Try.prog w base (fun _ => true) held fuel 46 cs = some x) : ∃ v l, cs = [v] ∧ RdR w v l := by
  rcases Go.Deep.open_slice Try.underlying46 h with ⟨hcs, _⟩ | ⟨a, len, cap, m, n, D, Pl, rfl, hb, hl, hm, hmm, _, hx⟩
  · exact ⟨_, [], hcs, none, 0, rfl, Nat.le_refl _, Nat.zero_le _, fun _ => rfl, (fun o h => by simp at h), .inl rfl⟩
  · have hmc : m = cap := by simpa using hmm
    subst hmc
    have each : ∀ i, i < len → ∃ o, RecOk o ∧ (∀ k, k < 7 → w.cell? (a.add (i * 7 + k)) = (recC o)[k]?) := by
      intro i hi
      obtain ⟨cs', h1, h2⟩ := hx i (by omega)
      rw [cells_rec] at h1
      obtain ⟨_, hlen, hcell⟩ := World.cells?_some h1
      obtain ⟨o, hcs, hok⟩ := open_rec_cells h2
      subst hcs
      refine ⟨o, hok, fun k hk => ?_⟩
      have e0 := hcell k (by omega)
      rw [Go.Deep.add_add] at e0
      rw [e0]
      match k, hk with
      | 0, _ => rfl
      | 1, _ => rfl
      | 2, _ => rfl
      | 3, _ => rfl
      | 4, _ => rfl
      | 5, _ => rfl
      | 6, _ => rfl
    obtain ⟨L, hL, hp⟩ := choose_recs each
    refine ⟨_, L, rfl, some a, m, by rw [hL], by omega, hm, (fun e => by cases e), fun o ho => ?_, ?_⟩
    · obtain ⟨j, hj, rfl⟩ := List.getElem_of_mem ho
      have := (hp j (by omega)).1
      simpa [List.getD, hj] using this
    · by_cases h0 : L = []
      · exact .inl h0
      · right
        have h0' : 0 < L.length := List.length_pos_iff.2 h0
        obtain ⟨b, off, spot⟩ := a
        have hspot : spot = none := by
          have := (hp 0 (by omega)).2 0 (by decide)
          have h2 : w.cell? ((⟨b, off, spot⟩ : Addr).add (0 * 7 + 0)) = some (.int .i64 (L.getD 0 zeroR).idx) := this
          simpa [Addr.add] using World.cell?_spot h2
        subst hspot
        refine ⟨b, off, rfl, fun j hj => ?_⟩
        obtain ⟨_, hc⟩ := hp j (by omega)
        simp only [Addr.add_lit] at hc
        have hc' : ∀ k, k < 7 → w.cell? ⟨b, off + j * 7 + k, none⟩ = (recC (L.getD j zeroR))[k]? := fun k hk => by
          rw [Nat.add_assoc]
          exact hc k hk
        exact ⟨hc' 0 (by decide), hc' 1 (by decide), hc' 2 (by decide), hc' 3 (by decide), hc' 4 (by decide), hc' 5 (by decide), hc' 6 (by decide)⟩

end Go.Proofs.Ytgpdbboieokldaa

/- Contracts of objs: place, look, put, drop. -/
namespace Go.Proofs.Ytgpdbboieokldaa
open Go.RowKit

theorem ret_ib {a b : Int} {c d : Bool} (h : a = b) (h2 : c = d) : Ending.returned (.tuple #[.int .i64 a, .bool c]) = .returned (.tuple #[.int .i64 b, .bool d]) := by rw [h, h2]

set_option maxRecDepth 100000 in
set_option maxHeartbeats 1000000 in
theorem place_any (v : Value) (l : List Int) (key : Int) (w : World) (hr : RdI w v l) (he : l.length % 2 = 0) (hlim : l.length ≤ 1000000) :
    Calls Try.prog 126 #[v, .int .i64 key] w fun e w' => e = .returned (.tuple #[.int .i64 (placeP key l), .bool (decide (placeP key l < l.length ∧ l.getD (placeP key l) 0 = key))]) ∧ Below w.heap.size w w' := by
  obtain ⟨ao, cap, rfl, -, -, -, -, hao⟩ := hr
  have HAO := hide' hao
  clear hao
  obtain ⟨P, hP⟩ : ∃ P, P = placeP key l := ⟨_, rfl⟩
  obtain ⟨R, hR⟩ : ∃ R, R = decide (P < l.length ∧ l.getD P 0 = key) := ⟨_, rfl⟩
  rw [← hP, ← hR]
  have HP := hide' hP
  have HR := hide' hR
  clear hP hR
  go_enter Try.func126, Try.ntmps126
  go_wp2
  go_loop [6] (fun i => ∃ k : Nat, i = .int .i64 k ∧ k ≤ l.length ∧ k % 2 = 0 ∧ Hid (∀ j, j < k → j % 2 = 0 → l.getD j 0 < key)) (fun i => l.length - (intOf i).toNat)
  case atStart => exact ⟨0, rfl, Nat.zero_le _, rfl, fun j hj => by omega⟩
  case round =>
    obtain ⟨k, rfl, hk, hk2, hall⟩ := hrel
    have HPK : Hid (P = k + placeP key (l.drop k)) := HP.out.trans (placeP_drop key l k he hk2 hk hall.out)
    by_cases hlt : k < l.length
    · rcases HAO.out with h0 | ⟨g, off, rfl, hc⟩
      · rw [h0] at hlt; simp at hlt
      have hck := hc k hlt
      clear hc
      obtain ⟨y, hy⟩ : ∃ y, y = l.getD k 0 := ⟨_, rfl⟩
      rw [← hy] at hck
      have HY := hide' hy
      clear hy
      by_cases hge : key ≤ y
      · have HK : Hid (P = k) := HPK.out.trans (by rw [placeP_stop key l k (by omega) (by rw [← HY.out]; exact hge)]; exact Nat.add_zero k)
        have HG : Hid (R = (y == key)) := by
          rw [HR.out, HK.out, ← HY.out]
          by_cases e : y = key
          · rw [beq_iff_eq.2 e]; exact decide_eq_true ⟨hlt, e⟩
          · rw [beq_eq_false_iff_ne.2 e]; exact decide_eq_false (fun h => e h.2)
        have hbk : (k : Int) < (l.length : Int) := by omega
        go_wp2
        go_quiet (fail)
        go_wp2
        go_ret2
        exact ⟨ret_ib (by rw [HK.out]) HG.out.symm, below_drewN (Below.refl _ _) _⟩
      · go_wp2
        go_round
        case rel =>
          refine ⟨k + 2, by go_num, by omega, by omega, fun j hj hj2 => ?_⟩
          by_cases e : j = k
          · rw [e, ← HY.out]; omega
          · exact hall.out j (by omega) hj2
        case measure => simp [intOf]; omega
    · have HK : Hid (P = l.length) := by
        have e : k = l.length := by omega
        rw [HPK.out, e, List.drop_length]
        exact rfl
      have HG : Hid (R = false) := HR.out.trans (decide_eq_false (fun h => by have := h.1; rw [HK.out] at this; omega))
      go_wp2
      go_ret2
      exact ⟨ret_ib (by rw [HK.out]) HG.out.symm, Below.refl _ _⟩

/-- place, of pairs. -/
theorem placeH_any (v : Value) (l : List Int) (key least lo : Int) (w : World) (hr : RdI w v l) (hp : Pairs least lo l) (hlim : l.length ≤ 1000000) :
    Calls Try.prog 126 #[v, .int .i64 key] w fun e w' => e = .returned (.tuple #[.int .i64 (placeP key l), .bool (hitP key l)]) ∧ Below w.heap.size w w' := by
  rw [(placeP_hit key least l lo hp).1]
  exact place_any v l key w hr (pairs_even hp) hlim

theorem pairs_i64 {least : Int} : ∀ {l : List Int} {lo : Int}, -1099511627776 ≤ least → -1 ≤ lo → Pairs least lo l → ∀ x ∈ l, I64 x
  | [], _, _, _, _, x, hx => by simp at hx
  | [_], _, _, _, h, _, _ => by simp [Pairs] at h
  | a :: b :: r, lo, hl, hlo, h, x, hx => by
    unfold Pairs at h
    have ih := pairs_i64 (l := r) (lo := a) hl (by omega) h.2.2.2.2 x
    simp at hx
    rcases hx with rfl | rfl | hx
    · exact i64_small (by omega) (by omega)
    · exact i64_small (by omega) (by omega)
    · exact ih hx

set_option maxRecDepth 100000 in
set_option maxHeartbeats 1000000 in
theorem look_any (v : Value) (l : List Int) (key least lo : Int) (w : World) (hr : RdI w v l) (hp : Pairs least lo l) (hlim : l.length ≤ 1000000) :
    Calls Try.prog 117 #[v, .int .i64 key] w fun e w' => e = .returned (.tuple #[.int .i64 ((getP key l).getD 0), .bool (hitP key l)]) ∧ Below w.heap.size w w' := by
  have HPL : Hid (Calls Try.prog 126 #[v, .int .i64 key] w fun e w' => e = .returned (.tuple #[.int .i64 (placeP key l), .bool (hitP key l)]) ∧ Below w.heap.size w w') := placeH_any v l key least lo w hr hp hlim
  have HH := hide' (placeP_hit key least l lo hp).2
  obtain ⟨ao, cap, rfl, -, -, -, -, hao⟩ := hr
  have HAO := hide' hao
  obtain ⟨G, hG⟩ : ∃ G, G = (getP key l).getD 0 := ⟨_, rfl⟩
  rw [← hG]
  have HG := hide' hG
  clear hao hp hG
  cases hh : hitP key l
  · rw [hh] at HPL
    have HZ : Hid (0 = G) := by
      have : getP key l = none := by
        unfold hitP at hh
        cases h : getP key l with
        | none => rfl
        | some x => rw [h] at hh; simp at hh
      rw [HG.out, this]
      exact rfl
    clear hh HH
    go_enter Try.func117, Try.ntmps117
    go_wp2_with fail
    refine HPL.out.mono ?_
    rintro e W1 ⟨rfl, hb1⟩
    have HB1 := hide' hb1
    clear hb1
    go_wp2
    go_ret2
    exact ⟨ret_ib HZ.out rfl, HB1.out⟩
  · rw [hh] at HPL
    obtain ⟨h1, h2⟩ := HH.out hh
    have HZ : Hid (l.getD (placeP key l + 1) 0 = G) := by
      rw [HG.out, h1]
      exact rfl
    rcases HAO.out with h0 | ⟨g, off, rfl, hc⟩
    · rw [h0] at h2; simp at h2
    have HC : Hid (∀ W, Below w.heap.size w W → W.cell? ⟨g, off + (placeP key l + 1), none⟩ = some (.int .i64 (l.getD (placeP key l + 1) 0))) := fun W h => (h.cell (World.block_lt_of_cell? w ⟨g, off + (placeP key l + 1), none⟩ (hc _ h2))).trans (hc _ h2)
    clear hh HH h1 HAO hc HG
    generalize l.getD (placeP key l + 1) 0 = y at *
    generalize placeP key l = P at *
    have hPl : (P : Int) + 1 < (l.length : Int) := by omega
    clear h2
    go_enter Try.func117, Try.ntmps117
    go_wp2_with fail
    refine HPL.out.mono ?_
    rintro e W1 ⟨rfl, hb1⟩
    have HB1 := hide' hb1
    have hg := HC.out _ hb1
    clear hb1
    go_wp2
    go_ret2
    exact ⟨ret_ib HZ.out rfl, HB1.out⟩

set_option maxRecDepth 100000 in
set_option maxHeartbeats 1000000 in
theorem putO_any (v : Value) (l : List Int) (key n least lo : Int) (B : Nat) (w : World) (ho : OwnI w B v l) (hB : B ≤ w.heap.size) (hi : ∀ x ∈ l, I64 x) (hp : Pairs least lo l) (hlim : l.length ≤ 1000000) :
    Calls Try.prog 120 #[v, .int .i64 key, .int .i64 n] w fun e w' => ∃ v', e = .returned v' ∧ OwnI w' B v' (withF key n false l) ∧ Mv w w' v v' := by
  have HPL : Hid (Calls Try.prog 126 #[v, .int .i64 key] w fun e w' => e = .returned (.tuple #[.int .i64 (placeP key l), .bool (hitP key l)]) ∧ Below w.heap.size w w') := placeH_any v l key least lo w (ho.rd hi) hp hlim
  have hle := (placeP_le key l (pairs_even hp)).1
  have HH := hide' (placeP_hit key least l lo hp).2
  have HO := hide' ho
  cases hh : hitP key l
  · rw [hh] at HPL
    have HW := hide' (withF_insert key n least l lo hp hh)
    have HI : Hid (∀ W, OwnI W B v l → B ≤ W.heap.size → Calls Try.prog 127 #[v, .int .i64 (placeP key l), .slice (some ⟨W.heap.size, 0, none⟩) 2 2] (W.alloc (.cells #[.int .i64 key, .int .i64 n] 3)) fun e w' => ∃ v', e = .returned v' ∧ OwnI w' B v' (l.take (placeP key l) ++ ([key, n] ++ l.drop (placeP key l))) ∧ Mv W w' v v') :=
      fun W h1 h2 => insertI_any v l B W h1 h2 hlim (placeP key l) hle _ rfl key n _ rfl
    obtain ⟨L', hL'⟩ : ∃ L', L' = withF key n false l := ⟨_, rfl⟩
    rw [← hL']
    rw [← hL'] at HW
    have HWS := hide' HW.out.symm
    rw [HWS.out] at HI
    clear hL' HW HWS ho hp HH hh hle
    generalize placeP key l = P at *
    go_enter Try.func120, Try.ntmps120
    go_wp2_with fail
    refine HPL.out.mono ?_
    rintro e W1 ⟨rfl, hb1⟩
    have HB1 := hide' hb1
    clear hb1
    go_wp2_with fail
    refine (HI.out W1 (HO.out.below HB1.out (Nat.le_refl _)) (Nat.le_trans hB HB1.out.size)).mono ?_
    rintro e W2 ⟨v2, rfl, ho2, hb2⟩
    have HB2 := hide' ((Mv.ofBelow HB1.out v).trans hb2)
    have HO2 := hide' ho2
    clear hb2 ho2
    go_wp2
    go_ret
    exact ⟨_, rfl, HO2.out, HB2.out⟩
  · rw [hh] at HPL
    have HW := hide' (withF_set key n least l lo hp hh)
    obtain ⟨h1, h2⟩ := HH.out hh
    obtain ⟨L', hL'⟩ : ∃ L', L' = withF key n false l := ⟨_, rfl⟩
    rw [← hL']
    rw [← hL'] at HW
    have hsh := ho.put _ h2 n
    obtain ⟨g, cap, rfl, -, -, hBg, hgl, -, -⟩ := hsh
    have HS : Hid (∀ W, Below w.heap.size w W → W.cell? ⟨g, placeP key l + 1, none⟩ = some (.int .i64 (l.getD (placeP key l + 1) 0)) ∧ W.frozen? ⟨g, placeP key l + 1, none⟩ = false ∧ OwnI (W.setCell ⟨g, placeP key l + 1, none⟩ (.int .i64 n)) B (.slice (some ⟨g, 0, none⟩) l.length cap) L' ∧ Mv w (W.setCell ⟨g, placeP key l + 1, none⟩ (.int .i64 n)) (.slice (some ⟨g, 0, none⟩) l.length cap) (.slice (some ⟨g, 0, none⟩) l.length cap)) := fun W hb => by
      obtain ⟨g', cap', hv, h3, h4, h5, h6, h7, h8⟩ := (HO.out.below hb (Nat.le_refl _)).put _ h2 n
      simp only [Value.slice.injEq, Option.some.injEq, Addr.mk.injEq] at hv
      obtain ⟨⟨rfl, _⟩, _, rfl⟩ := hv
      exact ⟨h3, h4, by rw [HW.out]; exact h7, (Mv.ofBelow hb _).trans h8⟩
    clear hL' HW ho hp HH hh hle h1 HO hi
    generalize l.getD (placeP key l + 1) 0 = y at *
    generalize placeP key l = P at *
    have hPl : (P : Int) + 1 < (l.length : Int) := by omega
    clear h2
    go_enter Try.func120, Try.ntmps120
    go_wp2_with fail
    refine HPL.out.mono ?_
    rintro e W1 ⟨rfl, hb1⟩
    obtain ⟨c1, f1, o1, b1⟩ := HS.out _ hb1
    have HO1 := hide' o1
    have HB1 := hide' b1
    clear hb1 o1 b1
    go_wp2
    go_ret
    exact ⟨_, rfl, HO1.out, HB1.out⟩

set_option maxRecDepth 100000 in
set_option maxHeartbeats 1000000 in
theorem drop_any (v : Value) (l : List Int) (key least lo : Int) (B : Nat) (w : World) (ho : OwnI w B v l) (hi : ∀ x ∈ l, I64 x) (hp : Pairs least lo l) (hlim : l.length ≤ 1000000) :
    Calls Try.prog 118 #[v, .int .i64 key] w fun e w' => ∃ v', e = .returned v' ∧ OwnI w' B v' (withoutF key l) ∧ Mv w w' v v' := by
  have HPL : Hid (Calls Try.prog 126 #[v, .int .i64 key] w fun e w' => e = .returned (.tuple #[.int .i64 (placeP key l), .bool (hitP key l)]) ∧ Below w.heap.size w w') := placeH_any v l key least lo w (ho.rd hi) hp hlim
  have hle := (placeP_le key l (pairs_even hp)).1
  have HH := hide' (placeP_hit key least l lo hp).2
  have HO := hide' ho
  cases hh : hitP key l
  · rw [hh] at HPL
    have HW := hide' (withoutF_not key least l lo hp hh)
    rw [HW.out]
    clear HW ho hp HH hh hle hi
    generalize placeP key l = P at *
    go_enter Try.func118, Try.ntmps118
    go_wp2_with fail
    refine HPL.out.mono ?_
    rintro e W1 ⟨rfl, hb1⟩
    have HB1 := hide' hb1
    clear hb1
    go_wp2
    go_ret
    exact ⟨_, rfl, HO.out.below HB1.out (Nat.le_refl _), Mv.ofBelow HB1.out v⟩
  · rw [hh] at HPL
    have HW := hide' (withoutF_cut key least l lo hp hh)
    obtain ⟨h1, h2⟩ := HH.out hh
    have HD : Hid (∀ W J, OwnI W B v l → J = ((placeP key l + 2 : Nat) : Int) → Calls Try.prog 125 #[v, .int .i64 (placeP key l), .int .i64 J] W fun e w' => ∃ v', e = .returned v' ∧ OwnI w' B v' (l.take (placeP key l) ++ l.drop (placeP key l + 2)) ∧ Mv W w' v v') :=
      fun W J h3 h4 => deleteI_any v l B W h3 (placeP key l) (placeP key l + 2) (by omega) (by omega) _ _ rfl h4
    obtain ⟨L', hL'⟩ : ∃ L', L' = withoutF key l := ⟨_, rfl⟩
    rw [← hL']
    rw [← hL'] at HW
    have HWS := hide' HW.out.symm
    rw [HWS.out] at HD
    clear hL' HW HWS ho hp HH hh hle h1
    generalize placeP key l = P at *
    have hPl : (P : Int) + 1 < (l.length : Int) := by omega
    clear h2
    go_enter Try.func118, Try.ntmps118
    go_wp2_with fail
    refine HPL.out.mono ?_
    rintro e W1 ⟨rfl, hb1⟩
    have HB1 := hide' hb1
    clear hb1
    go_wp2_with fail
    refine (HD.out W1 _ (HO.out.below HB1.out (Nat.le_refl _)) (by omega)).mono ?_
    rintro e W2 ⟨v2, rfl, ho2, hb2⟩
    have HB2 := hide' ((Mv.ofBelow HB1.out v).trans hb2)
    have HO2 := hide' ho2
    clear hb2 ho2
    go_wp2
    go_ret
    exact ⟨_, rfl, HO2.out, HB2.out⟩

end Go.Proofs.Ytgpdbboieokldaa

/- Contracts of objs: counter, register, pop, line. -/
namespace Go.Proofs.Ytgpdbboieokldaa
open Go.RowKit

/-- What a call answers that changes numbers of one's own in their place. -/
def Acted (B : Nat) (w : World) (v : Value) (L : List Int) (n : Int) (e : Ending) (w' : World) : Prop :=
  ∃ v', e = .returned (.tuple #[v', .int .i64 n]) ∧ OwnI w' B v' L ∧ Mv w w' v v'

theorem OwnI.alloc {w : World} {B : Nat} {v : Value} {l : List Int} (h : OwnI w B v l) (X : Obj) : OwnI (w.alloc X) B v l := World.ownsRow.alloc h X

/-- The one number of a row of one's own. -/
theorem OwnI.single {w : World} {B : Nat} {v : Value} {l : List Int} (h : OwnI w B v l) (hl : l.length = 1) :
    ∃ g cap, v = .slice (some ⟨g, 0, none⟩) 1 cap ∧ (∀ X, (w.alloc X).cell? ⟨g, 0, none⟩ = some (.int .i64 (l.getD 0 0)) ∧ (w.alloc X).frozen? ⟨g, 0, none⟩ = false) ∧ g < w.heap.size ∧
      ∀ X n, OwnI ((w.setCell ⟨g, 0, none⟩ (.int .i64 n)).alloc X) B v [n] ∧ Mv w ((w.setCell ⟨g, 0, none⟩ (.int .i64 n)).alloc X) v v := by
  obtain ⟨g, cap, rfl, -, -, hBg, hg, -, -⟩ := h.put 0 (by omega) 0
  refine ⟨g, cap, by rw [hl], fun X => ?_, hg, fun X n => ?_⟩
  · obtain ⟨g', cap', hv, h3, h4, _⟩ := (h.alloc X).put 0 (by omega) 0
    simp only [Value.slice.injEq, Option.some.injEq, Addr.mk.injEq] at hv
    obtain ⟨⟨rfl, _⟩, _, rfl⟩ := hv
    exact ⟨h3, h4⟩
  · obtain ⟨g', cap', hv, h3, h4, _, _, h7, h8⟩ := h.put 0 (by omega) n
    simp only [Value.slice.injEq, Option.some.injEq, Addr.mk.injEq] at hv
    obtain ⟨⟨rfl, _⟩, _, rfl⟩ := hv
    have e : l.set 0 n = [n] := by
      match l, hl with
      | [_], _ => rfl
    rw [e] at h7
    exact ⟨h7.alloc X, h8.trans (Mv.alloc _ _ X)⟩

set_option maxRecDepth 100000 in
set_option maxHeartbeats 1000000 in
theorem counter_any (v : Value) (l : List Int) (o : Opn) (shut : Bool) (g : Int) (B : Nat) (w : World) (ho : OwnI w B v l) (hl : l.length = 1) (hb0 : -1099511627776 ≤ l.getD 0 0) (hb1 : l.getD 0 0 ≤ 1099511627776) :
    Calls Try.prog 106 #[v, opV o] w fun e w' => e = .returned (.int .i64 (oneS ⟨0, l, shut, g⟩ o).2) ∧ OwnI w' B v (oneS ⟨0, l, shut, g⟩ o).1.L ∧ Mv w w' v v := by
  obtain ⟨code, a, b⟩ := o
  have HO := hide' ho
  have HBA : Hid (∀ X, Mv w (w.alloc X) v v) := fun X => Mv.alloc w v X
  have HC := hide' (fun n w => cutO_any n w)
  obtain ⟨c, cap, rfl, hcell, hlt, hput⟩ := ho.single hl
  have HPT := hide' hput
  have hc := fun X => (hcell X).1
  have hf := fun X => (hcell X).2
  clear hput ho hcell
  obtain ⟨n, hn⟩ : ∃ n, n = l.getD 0 0 := ⟨_, rfl⟩
  rw [← hn] at hb0 hb1
  simp only [← hn] at hc
  have HN := hide' hn
  have hca := cutZ_in a
  clear hn hl
  show Calls Try.prog _ #[_, .agg #[.int .i64 code, .int .i64 a, .int .i64 b]] w _
  by_cases c1 : code = 1
  · subst c1
    have HE : Hid (oneS ⟨0, l, shut, g⟩ ⟨1, a, b⟩ = (⟨0, [cutZ (n + cutZ a)], shut, g⟩, n)) := by rw [HN.out]; exact if_pos ⟨rfl, rfl⟩
    rw [HE.out]
    go_enter Try.func106, Try.ntmps106
    go_wp2_with (first | (go_at_call 115; refine (HC.out _ _).mono ?_; rintro e w2 ⟨rfl, rfl⟩))
    go_ret
    exact ⟨rfl, HPT.out _ _⟩
  · have e1 : (code == 1) = false := beq_eq_false_iff_ne.2 c1
    by_cases c7 : code = 7
    · have e7 : (code == 7) = true := beq_iff_eq.2 c7
      have HE : Hid (oneS ⟨0, l, shut, g⟩ ⟨code, a, b⟩ = (⟨0, l, shut, g⟩, n)) := by
        rw [HN.out]
        unfold oneS
        rw [if_neg (by simp; omega), if_neg (by simp), if_pos c7]
        exact rfl
      rw [HE.out]
      clear c1 c7
      go_enter Try.func106, Try.ntmps106
      go_wp2
      go_ret
      exact ⟨rfl, HO.out.alloc _, HBA.out _⟩
    · have e7 : (code == 7) = false := beq_eq_false_iff_ne.2 c7
      have HE : Hid (oneS ⟨0, l, shut, g⟩ ⟨code, a, b⟩ = (⟨0, l, shut, g⟩, 0)) := by
        unfold oneS
        rw [if_neg (by simp; omega), if_neg (by simp), if_neg c7]
        exact rfl
      rw [HE.out]
      clear c1 c7
      go_enter Try.func106, Try.ntmps106
      go_wp2
      go_ret
      exact ⟨rfl, HO.out.alloc _, HBA.out _⟩

set_option maxRecDepth 100000 in
set_option maxHeartbeats 1000000 in
theorem register_any (v : Value) (l : List Int) (o : Opn) (shut : Bool) (g : Int) (B : Nat) (w : World) (ho : OwnI w B v l) (hl : l.length = 1) :
    Calls Try.prog 107 #[v, opV o] w fun e w' => e = .returned (.int .i64 (oneS ⟨1, l, shut, g⟩ o).2) ∧ OwnI w' B v (oneS ⟨1, l, shut, g⟩ o).1.L ∧ Mv w w' v v := by
  obtain ⟨code, a, b⟩ := o
  have HO := hide' ho
  have HBA : Hid (∀ X, Mv w (w.alloc X) v v) := fun X => Mv.alloc w v X
  have HC := hide' (fun n w => cutO_any n w)
  obtain ⟨c, cap, rfl, hcell, hlt, hput⟩ := ho.single hl
  have HPT := hide' hput
  have hc := fun X => (hcell X).1
  have hf := fun X => (hcell X).2
  clear hput ho hcell
  obtain ⟨n, hn⟩ : ∃ n, n = l.getD 0 0 := ⟨_, rfl⟩
  simp only [← hn] at hc
  have HN := hide' hn
  clear hn hl
  show Calls Try.prog _ #[_, .agg #[.int .i64 code, .int .i64 a, .int .i64 b]] w _
  by_cases c1 : code = 2
  · subst c1
    have HE : Hid (oneS ⟨1, l, shut, g⟩ ⟨2, a, b⟩ = (⟨1, [cutZ a], shut, g⟩, n)) := by rw [HN.out]; exact rfl
    rw [HE.out]
    go_enter Try.func107, Try.ntmps107
    go_wp2_with (first | (go_at_call 115; refine (HC.out _ _).mono ?_; rintro e w2 ⟨rfl, rfl⟩))
    go_ret
    exact ⟨rfl, HPT.out _ _⟩
  · have e1 : (code == 2) = false := beq_eq_false_iff_ne.2 c1
    by_cases c7 : code = 7
    · have e7 : (code == 7) = true := beq_iff_eq.2 c7
      have HE : Hid (oneS ⟨1, l, shut, g⟩ ⟨code, a, b⟩ = (⟨1, l, shut, g⟩, n)) := by
        rw [HN.out]
        unfold oneS
        rw [if_neg (by simp), if_neg (by simp; omega), if_pos c7]
        exact rfl
      rw [HE.out]
      clear c1 c7
      go_enter Try.func107, Try.ntmps107
      go_wp2
      go_ret
      exact ⟨rfl, HO.out.alloc _, HBA.out _⟩
    · have e7 : (code == 7) = false := beq_eq_false_iff_ne.2 c7
      have HE : Hid (oneS ⟨1, l, shut, g⟩ ⟨code, a, b⟩ = (⟨1, l, shut, g⟩, 0)) := by
        unfold oneS
        rw [if_neg (by simp), if_neg (by simp; omega), if_neg c7]
        exact rfl
      rw [HE.out]
      clear c1 c7
      go_enter Try.func107, Try.ntmps107
      go_wp2
      go_ret
      exact ⟨rfl, HO.out.alloc _, HBA.out _⟩

set_option maxRecDepth 100000 in
set_option maxHeartbeats 1000000 in
theorem pop_any (kind : Int) (hk : kind = 2 ∨ kind = 3) (v : Value) (l : List Int) (shut : Bool) (g a b : Int) (B : Nat) (w : World) (ho : OwnI w B v l) (hi : ∀ x ∈ l, I64 x) (h64 : l.length ≤ 64) :
    Calls Try.prog 116 #[.int .i64 kind, v] w fun e w' => Acted B w v (listS ⟨kind, l, shut, g⟩ ⟨4, a, b⟩).1.L (listS ⟨kind, l, shut, g⟩ ⟨4, a, b⟩).2 e w' := by
  have HO := hide' ho
  have hsh := ho.shape
  by_cases h0 : l.length = 0
  · have HE : Hid (listS ⟨kind, l, shut, g⟩ ⟨4, a, b⟩ = (⟨kind, l, shut, g⟩, -1)) := by
      unfold listS
      rw [if_neg (by simp), if_pos rfl, if_pos h0]
      exact rfl
    rw [HE.out]
    obtain ⟨ao, cap, rfl⟩ := hsh
    rw [h0]
    have HO0 : Hid (OwnI w B (.slice ao 0 cap) l) := by
      have h := HO.out
      rwa [h0] at h
    clear HO ho h0 HE hi h64
    go_enter Try.func116, Try.ntmps116
    go_wp2
    go_ret2
    exact ⟨_, rfl, HO0.out, Mv.refl _ _⟩
  · have hne : ((l.length : Int) == 0) = false := beq_eq_false_iff_ne.2 (by omega)
    have hne' : l ≠ [] := fun h => h0 (by rw [h]; rfl)
    have hrd := ho.rd hi
    obtain ⟨ao, cap, rfl⟩ := hsh
    have HD : Hid (∀ i : Nat, i < l.length → ∀ I J, I = (i : Int) → J = ((i + 1 : Nat) : Int) → Calls Try.prog 125 #[.slice ao l.length cap, .int .i64 I, .int .i64 J] w fun e w' => ∃ v', e = .returned v' ∧ OwnI w' B v' (l.take i ++ l.drop (i + 1)) ∧ Mv w w' (.slice ao l.length cap) v') :=
      fun i hi I J h1 h2 => deleteI_any _ l B w HO.out i (i + 1) (by omega) (by omega) I J h1 h2
    obtain ⟨ao', cap', hv, -, -, -, -, hao⟩ := hrd
    simp only [Value.slice.injEq] at hv
    obtain ⟨rfl, -, rfl⟩ := hv
    rcases hao with hx | ⟨c, off, rfl, hc⟩
    · exact absurd hx hne'
    rcases hk with rfl | rfl
    · have HE : Hid (listS ⟨2, l, shut, g⟩ ⟨4, a, b⟩ = (⟨2, l.take 0 ++ l.drop (0 + 1), shut, g⟩, l.getD 0 0)) := by
        unfold listS
        rw [if_neg (by simp), if_pos rfl, if_neg h0, if_pos rfl]
        exact rfl
      rw [HE.out]
      have hc0 := hc 0 (by omega)
      rw [Nat.add_zero] at hc0
      have HDD := hide' (HD.out 0 (by omega))
      have hbk : (0 : Int) < (l.length : Int) := by omega
      generalize l.getD 0 0 = y at *
      generalize l.take 0 ++ l.drop (0 + 1) = L' at *
      clear hc HD HE h0 hne' ho hi HO
      go_enter Try.func116, Try.ntmps116
      go_wp2_with fail
      refine (HDD.out _ _ (by simp) (by simp)).mono ?_
      rintro e W1 ⟨v1, rfl, ho1, hb1⟩
      have HO1 := hide' ho1
      have HB1 := hide' hb1
      clear ho1 hb1
      go_wp2
      go_ret2
      exact ⟨_, rfl, HO1.out, HB1.out⟩
    · have HE : Hid (listS ⟨3, l, shut, g⟩ ⟨4, a, b⟩ = (⟨3, l.take (l.length - 1) ++ l.drop (l.length - 1 + 1), shut, g⟩, l.getD (l.length - 1) 0)) := by
        unfold listS
        rw [if_neg (by simp), if_pos rfl, if_neg h0, if_neg (by simp)]
        have e : l.drop (l.length - 1 + 1) = [] := List.drop_of_length_le (by omega)
        rw [e, List.append_nil]
        exact rfl
      rw [HE.out]
      have hc0 := hc (l.length - 1) (by omega)
      have HDD := hide' (HD.out (l.length - 1) (by omega))
      obtain ⟨M, hM⟩ : ∃ M, M = l.length - 1 := ⟨_, rfl⟩
      rw [← hM] at hc0 HDD ⊢
      have hlen : l.length = M + 1 := by omega
      generalize l.getD M 0 = y at *
      generalize l.take M ++ l.drop (M + 1) = L' at *
      clear hc HD HE h0 hne' ho hi HO hM hne
      rw [hlen] at HDD ⊢
      have hM64 : (M : Int) < 64 := by omega
      clear hlen h64
      go_enter Try.func116, Try.ntmps116
      go_wp2_with fail
      refine (HDD.out _ _ (by simp) (by simp)).mono ?_
      rintro e W1 ⟨v1, rfl, ho1, hb1⟩
      have HO1 := hide' ho1
      have HB1 := hide' hb1
      clear ho1 hb1
      go_wp2
      go_ret2
      exact ⟨_, rfl, HO1.out, HB1.out⟩

end Go.Proofs.Ytgpdbboieokldaa

/- Contracts of objs: line. -/
namespace Go.Proofs.Ytgpdbboieokldaa
open Go.RowKit

theorem ret_vi {v : Value} {a b : Int} (h : a = b) : Ending.returned (.tuple #[v, .int .i64 a]) = .returned (.tuple #[v, .int .i64 b]) := by rw [h]

set_option maxRecDepth 100000 in
set_option maxHeartbeats 1000000 in
theorem line_any (kind : Int) (hk : kind = 2 ∨ kind = 3) (v : Value) (l : List Int) (o : Opn) (shut : Bool) (g : Int) (B : Nat) (w : World) (ho : OwnI w B v l) (hB : B ≤ w.heap.size) (hi : ∀ x ∈ l, I64 x) (h64 : l.length ≤ 64) :
    Calls Try.prog 108 #[.int .i64 kind, v, opV o] w fun e w' => Acted B w v (listS ⟨kind, l, shut, g⟩ o).1.L (listS ⟨kind, l, shut, g⟩ o).2 e w' := by
  obtain ⟨code, a, b⟩ := o
  have HO := hide' ho
  have HBA : Hid (∀ X, Mv w (w.alloc X) v v) := fun X => Mv.alloc w v X
  have HC := hide' (fun n w => cutO_any n w)
  show Calls Try.prog _ #[_, _, .agg #[.int .i64 code, .int .i64 a, .int .i64 b]] w _
  by_cases c3 : code = 3
  · subst c3
    obtain ⟨ao, cap, rfl⟩ := ho.shape
    by_cases hf : l.length = 64
    · have HE : Hid (listS ⟨kind, l, shut, g⟩ ⟨3, a, b⟩ = (⟨kind, l, shut, g⟩, -1)) := by
        unfold listS
        rw [if_pos rfl, if_pos hf]
        exact rfl
      rw [HE.out]
      have hq : ((l.length : Int) == 64) = true := beq_iff_eq.2 (by omega)
      clear hf HE ho hi h64 hk
      go_enter Try.func108, Try.ntmps108
      go_wp2
      go_ret2
      exact ⟨_, rfl, HO.out.alloc _, HBA.out _⟩
    · have HE : Hid (listS ⟨kind, l, shut, g⟩ ⟨3, a, b⟩ = (⟨kind, l ++ [cutZ a], shut, g⟩, (l.length : Int) + 1)) := by
        unfold listS
        rw [if_pos rfl, if_neg hf]
        exact rfl
      rw [HE.out]
      have hq : ((l.length : Int) == 64) = false := beq_eq_false_iff_ne.2 (by omega)
      obtain ⟨L', hL'⟩ : ∃ L', L' = l ++ [cutZ a] := ⟨_, rfl⟩
      rw [← hL']
      have HLL := hide' hL'
      have HL : Hid ((L'.length : Int) = (l.length : Int) + 1) := by rw [hL', List.length_append]; exact rfl
      clear hf HE ho hi hk hL'
      go_enter Try.func108, Try.ntmps108
      go_wp2_with (first | (go_at_call 115; refine (HC.out _ _).mono ?_; rintro e w2 ⟨rfl, rfl⟩) | (at_builtin; refine wpList_append_intg _ rfl _ _ rfl B _ l rfl (HO.out.alloc _) _ _ rfl (by simp [Act.eval]) (by omega) (by simp; omega) ?_))
      intro v1 W1 ho1 hg1 ha1
      have hb1 := Mv.app hg1 (by simp) ha1
      clear hg1 ha1
      rw [← HLL.out] at ho1
      have HO1 := hide' ho1
      obtain ⟨ao1, cap1, rfl⟩ := ho1.shape
      have HB1 := hide' ((HBA.out _).trans hb1)
      clear ho1 hb1
      go_wp2
      go_ret2
      exact ⟨_, ret_vi HL.out, HO1.out, HB1.out⟩
  · have e3 : (code == 3) = false := beq_eq_false_iff_ne.2 c3
    by_cases c4 : code = 4
    · subst c4
      have HP : Hid (∀ X, Calls Try.prog 116 #[.int .i64 kind, v] (w.alloc X) fun e w' => Acted B (w.alloc X) v (listS ⟨kind, l, shut, g⟩ ⟨4, a, b⟩).1.L (listS ⟨kind, l, shut, g⟩ ⟨4, a, b⟩).2 e w') := fun X => pop_any kind hk v l shut g a b B (w.alloc X) (HO.out.alloc X) hi h64
      generalize (listS ⟨kind, l, shut, g⟩ ⟨4, a, b⟩).1.L = L' at *
      generalize (listS ⟨kind, l, shut, g⟩ ⟨4, a, b⟩).2 = n at *
      clear ho hi h64 hk c3 e3
      go_enter Try.func108, Try.ntmps108
      go_wp2_with fail
      refine (HP.out _).mono ?_
      rintro e W1 ⟨v1, rfl, ho1, hb1⟩
      have HO1 := hide' ho1
      have HB1 := hide' ((HBA.out _).trans hb1)
      clear ho1 hb1
      go_wp2
      go_ret2
      exact ⟨_, rfl, HO1.out, HB1.out⟩
    · have e4 : (code == 4) = false := beq_eq_false_iff_ne.2 c4
      obtain ⟨ao, cap, rfl⟩ := ho.shape
      by_cases c7 : code = 7
      · have e7 : (code == 7) = true := beq_iff_eq.2 c7
        have HE : Hid (listS ⟨kind, l, shut, g⟩ ⟨code, a, b⟩ = (⟨kind, l, shut, g⟩, (l.length : Int))) := by
          unfold listS
          rw [if_neg c3, if_neg c4, if_pos c7]
          exact rfl
        rw [HE.out]
        clear ho hi h64 hk c3 c4 c7 HE
        go_enter Try.func108, Try.ntmps108
        go_wp2
        go_ret2
        exact ⟨_, rfl, HO.out.alloc _, HBA.out _⟩
      · have e7 : (code == 7) = false := beq_eq_false_iff_ne.2 c7
        have HE : Hid (listS ⟨kind, l, shut, g⟩ ⟨code, a, b⟩ = (⟨kind, l, shut, g⟩, 0)) := by
          unfold listS
          rw [if_neg c3, if_neg c4, if_neg c7]
          exact rfl
        rw [HE.out]
        clear ho hi h64 hk c3 c4 c7 HE
        go_enter Try.func108, Try.ntmps108
        go_wp2
        go_ret2
        exact ⟨_, rfl, HO.out.alloc _, HBA.out _⟩

theorem OwnI.drew {w : World} {B : Nat} {v : Value} {l : List Int} (h : OwnI w B v l) : OwnI w.drew B v l := h

theorem hit_find (key : Int) (l : List Int) : findF key 0 l < 0 ↔ hitP key l = false := by
  rw [find_none]
  unfold hitP
  cases getP key l <;> simp

theorem had_hit {key : Int} {l : List Int} (h : hitP key l = true) : hadF key l = (getP key l).getD 0 := by
  rw [had_get]
  unfold hitP at h
  cases hg : getP key l with
  | none => rw [hg] at h; simp at h
  | some x => rfl

theorem had_miss {key : Int} {l : List Int} (h : hitP key l = false) : hadF key l = -1 := by
  rw [had_get]
  unfold hitP at h
  cases hg : getP key l with
  | none => rfl
  | some x => rw [hg] at h; simp at h

end Go.Proofs.Ytgpdbboieokldaa

/- Contracts of objs: store. -/
namespace Go.Proofs.Ytgpdbboieokldaa
open Go.RowKit

set_option maxRecDepth 100000 in
set_option maxHeartbeats 1000000 in
theorem storeO_any (v : Value) (l : List Int) (o : Opn) (shut : Bool) (g : Int) (B : Nat) (w : World) (ho : OwnI w B v l) (hB : B ≤ w.heap.size) (hp : Pairs (-1099511627776) (-1) l) (hlim : l.length ≤ 128) :
    Calls Try.prog 109 #[v, opV o] w fun e w' => Acted B w v (storeO ⟨4, l, shut, g⟩ o).1.L (storeO ⟨4, l, shut, g⟩ o).2 e w' := by
  obtain ⟨code, a, b⟩ := o
  have hi := pairs_i64 (by decide) (by decide) hp
  have HO := hide' ho
  have HBA : Hid (∀ X, Mv w (w.alloc X) v v) := fun X => Mv.alloc w v X
  have HC := hide' (fun n w => cutO_any n w)
  have HW := hide' (fun p q W => within_any p q W)
  have HS := hide' (fun n l2 h2 a2 b2 W p1 p2 => is_any n l2 h2 a2 b2 W p1 p2)
  have HLK : Hid (∀ W, OwnI W B v l → Calls Try.prog 117 #[v, .int .i64 a] W fun e w' => e = .returned (.tuple #[.int .i64 ((getP a l).getD 0), .bool (hitP a l)]) ∧ Below W.heap.size W w') := fun W h => look_any v l a _ _ W (h.rd hi) hp (by omega)
  have HPT : Hid (∀ n W, OwnI W B v l → B ≤ W.heap.size → Calls Try.prog 120 #[v, .int .i64 a, .int .i64 n] W fun e w' => ∃ v', e = .returned v' ∧ OwnI w' B v' (withF a n false l) ∧ Mv W w' v v') := fun n W h1 h2 => putO_any v l a n _ _ B W h1 h2 hi hp (by omega)
  have HDR : Hid (∀ W, OwnI W B v l → B ≤ W.heap.size → Calls Try.prog 118 #[v, .int .i64 a] W fun e w' => ∃ v', e = .returned v' ∧ OwnI w' B v' (withoutF a l) ∧ Mv W w' v v') := fun W h1 _ => drop_any v l a _ _ B W h1 hi hp (by omega)
  obtain ⟨ao, cap, rfl⟩ := ho.shape
  have HFU : Hid (∀ W, Calls Try.prog 119 #[.slice ao l.length cap] W fun e w' => e = .returned (.bool (decide (l.length = 128))) ∧ w' = W) := fun W => full_any ao l.length cap W
  obtain ⟨L', n', hE⟩ : ∃ L' n', storeO ⟨4, l, shut, g⟩ ⟨code, a, b⟩ = (⟨4, L', shut, g⟩, n') := by
    unfold storeO
    repeat' split
    all_goals exact ⟨_, _, rfl⟩
  rw [hE]
  have HE := hide' hE
  clear hE ho hp hi
  show Calls Try.prog _ #[_, .agg #[.int .i64 code, .int .i64 a, .int .i64 b]] w fun e w' => Acted B w (.slice ao l.length cap) L' n' e w'
  by_cases hk : 0 ≤ a ∧ a ≤ 255
  · have HN := hide' (decide_eq_true hk)
    have HK : Hid (¬ (a < 0 ∨ 255 < a)) := by
      show ¬ (a < 0 ∨ 255 < a)
      omega
    clear hk
    cases hh : hitP a l
    · have HHF := hide' ((hit_find a l).2 hh)
      have HHD := hide' (had_miss hh)
      rw [hh] at HLK
      clear hh
      generalize (getP a l).getD 0 = y at *
      go_enter Try.func109, Try.ntmps109
      go_wp2_with fail
      refine (HW.out _ _ _).mono ?_
      rintro e W1 ⟨a1, b1, rfl, hc1, hc2, hb1⟩
      have hbx := (hb1.block w.heap.size (by simp)).trans (heap_alloc_new w _)
      have p1 := cell_of_row W1 w.heap.size 1 _ _ _ hbx
      have HX1 := hide' hbx
      have HB1 := hide' ((HBA.out _).trans (Mv.ofBelow hb1 _))
      have HO1 := hide' ((HO.out.alloc _).below hb1 (Nat.le_refl _))
      clear hb1 hbx
      go_wp2_with fail
      refine (HS.out _ _ _ _ _ _ hc1 hc2).mono ?_
      rintro e W2 ⟨rfl, rfl⟩
      rw [HN.out]
      clear hc1 hc2
      go_wp2_with fail
      refine (HLK.out _ HO1.out).mono ?_
      rintro e W2 ⟨rfl, hb2⟩
      have hbx := (hb2.block w.heap.size (Array.getElem?_eq_some_iff.1 HX1.out).1).trans HX1.out
      have p0 := cell_of_row W2 w.heap.size 0 _ _ _ hbx
      have q1 := cell_of_row W2 w.heap.size 1 _ _ _ hbx
      have q2 := cell_of_row W2 w.heap.size 2 _ _ _ hbx
      have HB2 := hide' (HB1.out.trans (Mv.ofBelow hb2 _))
      have HO2 := hide' (HO1.out.below hb2 (Nat.le_refl _))
      have hB2 : B ≤ W2.heap.size := Nat.le_trans hB HB2.out.size
      clear hb2 hbx HX1 HB1 HO1 p1
      by_cases c7 : code = 7
      · have HR : Hid (L' = l ∧ n' = -1) := by
          have h := HE.out
          unfold storeO at h
          rw [if_neg HK.out, if_neg (show ¬ (code ≠ 7 ∧ code ≠ 6 ∧ code ≠ 5) by omega), if_neg (show ¬ code = 6 by omega), if_neg (show ¬ code = 5 by omega), HHD.out] at h
          injection h with h1 h2
          injection h1 with _ h3
          exact ⟨h3.symm, h2.symm⟩
        have e7 : (code == 7) = true := beq_iff_eq.2 c7
        clear c7
        go_wp2
        go_ret2
        exact ⟨_, ret_vi HR.out.2.symm, by rw [HR.out.1]; exact HO2.out, HB2.out⟩
      · have e7 : (code == 7) = false := beq_eq_false_iff_ne.2 c7
        by_cases c6 : code = 6
        · have HR : Hid (L' = withoutF a l ∧ n' = -1) := by
            have h := HE.out
            unfold storeO at h
            rw [if_neg HK.out, if_neg (show ¬ (code ≠ 7 ∧ code ≠ 6 ∧ code ≠ 5) by omega), if_pos (show code = 6 by omega), HHD.out] at h
            injection h with h1 h2
            injection h1 with _ h3
            exact ⟨h3.symm, h2.symm⟩
          have e6 : (code == 6) = true := beq_iff_eq.2 c6
          clear c6 c7
          go_wp2_with fail
          refine (HDR.out _ HO2.out hB2).mono ?_
          rintro e W3 ⟨v3, rfl, ho3, hb3⟩
          have HB3 := hide' (HB2.out.trans hb3)
          have HO3 := hide' ho3
          clear ho3 hb3
          go_wp2
          go_ret2
          exact ⟨_, ret_vi HR.out.2.symm, by rw [HR.out.1]; exact HO3.out, HB3.out⟩
        · have e6 : (code == 6) = false := beq_eq_false_iff_ne.2 c6
          by_cases c5 : code = 5
          · have e5 : (code == 5) = true := beq_iff_eq.2 c5
            by_cases hf : l.length = 128
            · have HR : Hid (L' = l ∧ n' = -2) := by
                have h := HE.out
                unfold storeO at h
                rw [if_neg HK.out, if_neg (show ¬ (code ≠ 7 ∧ code ≠ 6 ∧ code ≠ 5) by omega), if_neg (show ¬ code = 6 by omega), if_pos c5, if_pos ⟨HHF.out, hf⟩] at h
                injection h with h1 h2
                injection h1 with _ h3
                exact ⟨h3.symm, h2.symm⟩
              have HFD := hide' (decide_eq_true hf)
              clear c5 c6 c7 hf
              go_wp2_with fail
              refine (HFU.out _).mono ?_
              rintro e W3 ⟨rfl, rfl⟩
              rw [HFD.out]
              go_wp2
              go_ret2
              exact ⟨_, ret_vi HR.out.2.symm, by rw [HR.out.1]; exact HO2.out, HB2.out⟩
            · have HR : Hid (L' = withF a (cutZ b) false l ∧ n' = -1) := by
                have h := HE.out
                unfold storeO at h
                rw [if_neg HK.out, if_neg (show ¬ (code ≠ 7 ∧ code ≠ 6 ∧ code ≠ 5) by omega), if_neg (show ¬ code = 6 by omega), if_pos c5, if_neg (fun h => hf h.2), HHD.out] at h
                injection h with h1 h2
                injection h1 with _ h3
                exact ⟨h3.symm, h2.symm⟩
              have HFD := hide' (decide_eq_false hf)
              clear hf
              clear c5 c6 c7
              go_wp2_with fail
              refine (HFU.out _).mono ?_
              rintro e W3 ⟨rfl, rfl⟩
              rw [HFD.out]
              go_wp2
              go_region_with
                (first
                  | (go_at_call 115; refine (HC.out _ _).mono ?_; rintro e w3 ⟨rfl, rfl⟩)
                  | (go_at_call 120; refine (HPT.out _ _ HO2.out.drew hB2).mono ?_; rintro e W3 ⟨v3, rfl, ho3, hb3⟩; have HB3 := hide' (HB2.out.drew.trans hb3); have HO3 := hide' ho3; clear ho3 hb3))
              all_goals
                go_wp2
                go_ret2
                exact ⟨_, ret_vi HR.out.2.symm, by rw [HR.out.1]; exact HO3.out, HB3.out⟩
              
          · have e5 : (code == 5) = false := beq_eq_false_iff_ne.2 c5
            have HR : Hid (L' = l ∧ n' = 0) := by
              have h := HE.out
              unfold storeO at h
              rw [if_neg HK.out, if_pos (show (code ≠ 7 ∧ code ≠ 6 ∧ code ≠ 5) by omega)] at h
              injection h with h1 h2
              injection h1 with _ h3
              exact ⟨h3.symm, h2.symm⟩
            clear c5 c6 c7
            go_wp2
            go_ret2
            exact ⟨_, ret_vi HR.out.2.symm, by rw [HR.out.1]; exact HO2.out, HB2.out⟩
    · have HHF : Hid (¬ findF a 0 l < 0) := fun h => by rw [(hit_find a l).1 h] at hh; cases hh
      have HHD := hide' (had_hit hh)
      rw [hh] at HLK
      clear hh
      generalize (getP a l).getD 0 = y at *
      go_enter Try.func109, Try.ntmps109
      go_wp2_with fail
      refine (HW.out _ _ _).mono ?_
      rintro e W1 ⟨a1, b1, rfl, hc1, hc2, hb1⟩
      have hbx := (hb1.block w.heap.size (by simp)).trans (heap_alloc_new w _)
      have p1 := cell_of_row W1 w.heap.size 1 _ _ _ hbx
      have HX1 := hide' hbx
      have HB1 := hide' ((HBA.out _).trans (Mv.ofBelow hb1 _))
      have HO1 := hide' ((HO.out.alloc _).below hb1 (Nat.le_refl _))
      clear hb1 hbx
      go_wp2_with fail
      refine (HS.out _ _ _ _ _ _ hc1 hc2).mono ?_
      rintro e W2 ⟨rfl, rfl⟩
      rw [HN.out]
      clear hc1 hc2
      go_wp2_with fail
      refine (HLK.out _ HO1.out).mono ?_
      rintro e W2 ⟨rfl, hb2⟩
      have hbx := (hb2.block w.heap.size (Array.getElem?_eq_some_iff.1 HX1.out).1).trans HX1.out
      have p0 := cell_of_row W2 w.heap.size 0 _ _ _ hbx
      have q1 := cell_of_row W2 w.heap.size 1 _ _ _ hbx
      have q2 := cell_of_row W2 w.heap.size 2 _ _ _ hbx
      have HB2 := hide' (HB1.out.trans (Mv.ofBelow hb2 _))
      have HO2 := hide' (HO1.out.below hb2 (Nat.le_refl _))
      have hB2 : B ≤ W2.heap.size := Nat.le_trans hB HB2.out.size
      clear hb2 hbx HX1 HB1 HO1 p1
      by_cases c7 : code = 7
      · have HR : Hid (L' = l ∧ n' = y) := by
          have h := HE.out
          unfold storeO at h
          rw [if_neg HK.out, if_neg (show ¬ (code ≠ 7 ∧ code ≠ 6 ∧ code ≠ 5) by omega), if_neg (show ¬ code = 6 by omega), if_neg (show ¬ code = 5 by omega), HHD.out] at h
          injection h with h1 h2
          injection h1 with _ h3
          exact ⟨h3.symm, h2.symm⟩
        have e7 : (code == 7) = true := beq_iff_eq.2 c7
        clear c7
        go_wp2
        go_ret2
        exact ⟨_, ret_vi HR.out.2.symm, by rw [HR.out.1]; exact HO2.out, HB2.out⟩
      · have e7 : (code == 7) = false := beq_eq_false_iff_ne.2 c7
        by_cases c6 : code = 6
        · have HR : Hid (L' = withoutF a l ∧ n' = y) := by
            have h := HE.out
            unfold storeO at h
            rw [if_neg HK.out, if_neg (show ¬ (code ≠ 7 ∧ code ≠ 6 ∧ code ≠ 5) by omega), if_pos (show code = 6 by omega), HHD.out] at h
            injection h with h1 h2
            injection h1 with _ h3
            exact ⟨h3.symm, h2.symm⟩
          have e6 : (code == 6) = true := beq_iff_eq.2 c6
          clear c6 c7
          go_wp2_with fail
          refine (HDR.out _ HO2.out hB2).mono ?_
          rintro e W3 ⟨v3, rfl, ho3, hb3⟩
          have HB3 := hide' (HB2.out.trans hb3)
          have HO3 := hide' ho3
          clear ho3 hb3
          go_wp2
          go_ret2
          exact ⟨_, ret_vi HR.out.2.symm, by rw [HR.out.1]; exact HO3.out, HB3.out⟩
        · have e6 : (code == 6) = false := beq_eq_false_iff_ne.2 c6
          by_cases c5 : code = 5
          · have e5 : (code == 5) = true := beq_iff_eq.2 c5
            have HR : Hid (L' = withF a (cutZ b) false l ∧ n' = y) := by
              have h := HE.out
              unfold storeO at h
              rw [if_neg HK.out, if_neg (show ¬ (code ≠ 7 ∧ code ≠ 6 ∧ code ≠ 5) by omega), if_neg (show ¬ code = 6 by omega), if_pos c5, if_neg (fun h => absurd (show findF a 0 l < 0 from h.1) (by have := HHF.out; omega)), HHD.out] at h
              injection h with h1 h2
              injection h1 with _ h3
              exact ⟨h3.symm, h2.symm⟩
            clear c5 c6 c7
            go_wp2
            go_region_with
              (first
                | (go_at_call 115; refine (HC.out _ _).mono ?_; rintro e w3 ⟨rfl, rfl⟩)
                | (go_at_call 120; refine (HPT.out _ _ HO2.out.drew hB2).mono ?_; rintro e W3 ⟨v3, rfl, ho3, hb3⟩; have HB3 := hide' (HB2.out.drew.trans hb3); have HO3 := hide' ho3; clear ho3 hb3))
            all_goals
              go_wp2
              go_ret2
              exact ⟨_, ret_vi HR.out.2.symm, by rw [HR.out.1]; exact HO3.out, HB3.out⟩
          · have e5 : (code == 5) = false := beq_eq_false_iff_ne.2 c5
            have HR : Hid (L' = l ∧ n' = 0) := by
              have h := HE.out
              unfold storeO at h
              rw [if_neg HK.out, if_pos (show (code ≠ 7 ∧ code ≠ 6 ∧ code ≠ 5) by omega)] at h
              injection h with h1 h2
              injection h1 with _ h3
              exact ⟨h3.symm, h2.symm⟩
            clear c5 c6 c7
            go_wp2
            go_ret2
            exact ⟨_, ret_vi HR.out.2.symm, by rw [HR.out.1]; exact HO2.out, HB2.out⟩
  · have HN := hide' (decide_eq_false hk)
    have HR : Hid (L' = l ∧ n' = -1) := by
      have h := HE.out
      unfold storeO at h
      rw [if_pos (show a < 0 ∨ 255 < a by omega)] at h
      injection h with h1 h2
      injection h1 with _ h3
      exact ⟨h3.symm, h2.symm⟩
    clear hk
    go_enter Try.func109, Try.ntmps109
    go_wp2_with fail
    refine (HW.out _ _ _).mono ?_
    rintro e W1 ⟨a1, b1, rfl, hc1, hc2, hb1⟩
    have hbx := (hb1.block w.heap.size (by simp)).trans (heap_alloc_new w _)
    have p1 := cell_of_row W1 w.heap.size 1 _ _ _ hbx
    have HX1 := hide' hbx
    have HB1 := hide' ((HBA.out _).trans (Mv.ofBelow hb1 _))
    have HO1 := hide' ((HO.out.alloc _).below hb1 (Nat.le_refl _))
    clear hb1 hbx
    go_wp2_with fail
    refine (HS.out _ _ _ _ _ _ hc1 hc2).mono ?_
    rintro e W2 ⟨rfl, rfl⟩
    rw [HN.out]
    clear hc1 hc2
    go_wp2
    go_ret2
    exact ⟨_, ret_vi HR.out.2.symm, by rw [HR.out.1]; exact HO1.out, HB1.out⟩

end Go.Proofs.Ytgpdbboieokldaa

/- Contracts of objs: deposit, move, ledger. -/
namespace Go.Proofs.Ytgpdbboieokldaa
open Go.RowKit

theorem has_hit (key : Int) (l : List Int) : hasF key l = (getP key l).getD 0 := has_get key l

set_option maxRecDepth 100000 in
set_option maxHeartbeats 1000000 in
theorem deposit_any (v : Value) (l : List Int) (a b : Int) (shut : Bool) (g : Int) (B : Nat) (w : World) (ho : OwnI w B v l) (hB : B ≤ w.heap.size) (hp : Pairs 0 (-1) l) (hlim : l.length ≤ 128) :
    Calls Try.prog 121 #[v, .int .i64 a, .int .i64 b] w fun e w' => Acted B w v (ledgerS ⟨5, l, shut, g⟩ ⟨8, a, b⟩).1.L (ledgerS ⟨5, l, shut, g⟩ ⟨8, a, b⟩).2 e w' := by
  have hi := pairs_i64 (by decide) (by decide) hp
  have HO := hide' ho
  have HC := hide' (fun n w => cutO_any n w)
  have HW := hide' (fun p q W => within_any p q W)
  have HS := hide' (fun n l2 h2 a2 b2 W p1 p2 => is_any n l2 h2 a2 b2 W p1 p2)
  have HLK : Hid (∀ W, OwnI W B v l → Calls Try.prog 117 #[v, .int .i64 a] W fun e w' => e = .returned (.tuple #[.int .i64 (hasF a l), .bool (hitP a l)]) ∧ Below W.heap.size W w') := fun W h => by
    rw [has_get]
    exact look_any v l a _ _ W (h.rd hi) hp (by omega)
  have HPT : Hid (∀ n W, OwnI W B v l → B ≤ W.heap.size → Calls Try.prog 120 #[v, .int .i64 a, .int .i64 n] W fun e w' => ∃ v', e = .returned v' ∧ OwnI w' B v' (withF a n false l) ∧ Mv W w' v v') := fun n W h1 h2 => putO_any v l a n _ _ B W h1 h2 hi hp (by omega)
  have hhb := has_bounds hp a
  obtain ⟨ao, cap, rfl⟩ := ho.shape
  have HFU : Hid (∀ W, Calls Try.prog 119 #[.slice ao l.length cap] W fun e w' => e = .returned (.bool (decide (l.length = 128))) ∧ w' = W) := fun W => full_any ao l.length cap W
  obtain ⟨L', n', hE⟩ : ∃ L' n', ledgerS ⟨5, l, shut, g⟩ ⟨8, a, b⟩ = (⟨5, L', shut, g⟩, n') := by
    unfold ledgerS
    rw [if_neg (by simp), if_neg (by simp)]
    repeat' split
    all_goals exact ⟨_, _, rfl⟩
  rw [hE]
  have HE0 := hide' hE
  have HE : Hid ((if a < 0 ∨ 255 < a then ((⟨5, l, shut, g⟩ : St), (-1 : Int)) else if b < 0 then (⟨5, l, shut, g⟩, -1) else if findF a 0 l < 0 ∧ l.length = 128 then (⟨5, l, shut, g⟩, -2) else (⟨5, withF a (cutZ (hasF a l + cutZ b)) false l, shut, g⟩, cutZ (hasF a l + cutZ b))) = (⟨5, L', shut, g⟩, n')) := by
    refine hide' ?_
    have h := HE0.out
    unfold ledgerS at h
    rw [if_neg (by simp), if_neg (by simp)] at h
    simpa using h
  clear hE ho hp hi HE0
  show Calls Try.prog _ _ w fun e w' => Acted B w (.slice ao l.length cap) L' n' e w'
  have hcb := cutZ_in b
  by_cases hk : 0 ≤ a ∧ a ≤ 255
  · have HN := hide' (decide_eq_true hk)
    have HK : Hid (¬ (a < 0 ∨ 255 < a)) := by
      show ¬ (a < 0 ∨ 255 < a)
      omega
    clear hk
    by_cases hb : b < 0
    · have HR : Hid (L' = l ∧ n' = -1) := by
        have h := HE.out
        rw [if_neg HK.out, if_pos hb] at h
        injection h with h1 h2
        injection h1 with _ h3
        exact ⟨h3.symm, h2.symm⟩
      go_enter Try.func121, Try.ntmps121
      go_wp2_with fail
      refine (HW.out _ _ _).mono ?_
      rintro e W1 ⟨a1, b1, rfl, hc1, hc2, hb1⟩
      have HB1 := hide' (Mv.ofBelow hb1 (.slice ao l.length cap))
      have HO1 := hide' (HO.out.below hb1 (Nat.le_refl _))
      clear hb1
      go_wp2_with fail
      refine (HS.out _ _ _ _ _ _ hc1 hc2).mono ?_
      rintro e W2 ⟨rfl, rfl⟩
      rw [HN.out]
      go_wp2
      go_ret2
      exact ⟨_, ret_vi HR.out.2.symm, by rw [HR.out.1]; exact HO1.out, HB1.out⟩
    · go_enter Try.func121, Try.ntmps121
      go_wp2_with fail
      refine (HW.out _ _ _).mono ?_
      rintro e W1 ⟨a1, b1, rfl, hc1, hc2, hb1⟩
      have HB1 := hide' (Mv.ofBelow hb1 (.slice ao l.length cap))
      have HO1 := hide' (HO.out.below hb1 (Nat.le_refl _))
      clear hb1
      go_wp2_with fail
      refine (HS.out _ _ _ _ _ _ hc1 hc2).mono ?_
      rintro e W2 ⟨rfl, rfl⟩
      rw [HN.out]
      clear hc1 hc2
      go_wp2_with fail
      refine (HLK.out _ HO1.out).mono ?_
      rintro e W2 ⟨rfl, hb2⟩
      have HB2 := hide' (HB1.out.trans (Mv.ofBelow hb2 _))
      have HO2 := hide' (HO1.out.below hb2 (Nat.le_refl _))
      have hB2 : B ≤ W2.heap.size := Nat.le_trans hB HB2.out.size
      clear hb2 HB1 HO1
      by_cases hfull : hitP a l = false ∧ l.length = 128
      · have HR : Hid (L' = l ∧ n' = -2) := by
          have h := HE.out
          rw [if_neg HK.out, if_neg (show ¬ b < 0 by omega), if_pos ⟨(hit_find a l).2 hfull.1, hfull.2⟩] at h
          injection h with h1 h2
          injection h1 with _ h3
          exact ⟨h3.symm, h2.symm⟩
        have HFD := hide' (decide_eq_true hfull.2)
        rw [hfull.1]
        clear hfull
        go_wp2_with fail
        refine (HFU.out _).mono ?_
        rintro e W3 ⟨rfl, rfl⟩
        rw [HFD.out]
        go_wp2
        go_ret2
        exact ⟨_, ret_vi HR.out.2.symm, by rw [HR.out.1]; exact HO2.out, HB2.out⟩
      · have HR : Hid (L' = withF a (cutZ (hasF a l + cutZ b)) false l ∧ n' = cutZ (hasF a l + cutZ b)) := by
          have h := HE.out
          rw [if_neg HK.out, if_neg (show ¬ b < 0 by omega), if_neg (fun h => hfull ⟨(hit_find a l).1 h.1, h.2⟩)] at h
          injection h with h1 h2
          injection h1 with _ h3
          exact ⟨h3.symm, h2.symm⟩
        generalize hasF a l = y at *
        cases hh : hitP a l
        · have HFD := hide' (decide_eq_false (fun h => hfull ⟨hh, h⟩))
          clear hfull hh
          go_wp2_with fail
          refine (HFU.out _).mono ?_
          rintro e W3 ⟨rfl, rfl⟩
          rw [HFD.out]
          go_wp2_with (first | (go_at_call 115; refine (HC.out _ _).mono ?_; rintro e w3 ⟨rfl, rfl⟩) | (go_at_call 120; refine (HPT.out _ _ HO2.out hB2).mono ?_; rintro e W3 ⟨v3, rfl, ho3, hb3⟩; have HB3 := hide' (HB2.out.trans hb3); have HO3 := hide' ho3; clear ho3 hb3))
          go_ret2
          exact ⟨_, ret_vi HR.out.2.symm, by rw [HR.out.1]; exact HO3.out, HB3.out⟩
        · clear hfull hh
          go_wp2_with (first | (go_at_call 115; refine (HC.out _ _).mono ?_; rintro e w3 ⟨rfl, rfl⟩) | (go_at_call 120; refine (HPT.out _ _ HO2.out hB2).mono ?_; rintro e W3 ⟨v3, rfl, ho3, hb3⟩; have HB3 := hide' (HB2.out.trans hb3); have HO3 := hide' ho3; clear ho3 hb3))
          go_ret2
          exact ⟨_, ret_vi HR.out.2.symm, by rw [HR.out.1]; exact HO3.out, HB3.out⟩
  · have HN := hide' (decide_eq_false hk)
    have HR : Hid (L' = l ∧ n' = -1) := by
      have h := HE.out
      rw [if_pos (show a < 0 ∨ 255 < a by omega)] at h
      injection h with h1 h2
      injection h1 with _ h3
      exact ⟨h3.symm, h2.symm⟩
    clear hk
    go_enter Try.func121, Try.ntmps121
    go_wp2_with fail
    refine (HW.out _ _ _).mono ?_
    rintro e W1 ⟨a1, b1, rfl, hc1, hc2, hb1⟩
    have HB1 := hide' (Mv.ofBelow hb1 (.slice ao l.length cap))
    have HO1 := hide' (HO.out.below hb1 (Nat.le_refl _))
    clear hb1
    go_wp2_with fail
    refine (HS.out _ _ _ _ _ _ hc1 hc2).mono ?_
    rintro e W2 ⟨rfl, rfl⟩
    rw [HN.out]
    go_wp2
    go_ret2
    exact ⟨_, ret_vi HR.out.2.symm, by rw [HR.out.1]; exact HO1.out, HB1.out⟩

end Go.Proofs.Ytgpdbboieokldaa

/- Contracts of objs: move. -/
namespace Go.Proofs.Ytgpdbboieokldaa
open Go.RowKit

set_option maxRecDepth 100000 in
set_option maxHeartbeats 1000000 in
theorem move_any (v : Value) (l : List Int) (code a b : Int) (shut : Bool) (g : Int) (B : Nat) (w : World) (ho : OwnI w B v l) (hB : B ≤ w.heap.size) (hp : Pairs 0 (-1) l) (hlim : l.length ≤ 128) :
    Calls Try.prog 122 #[v, .int .i64 a, .int .i64 b] w fun e w' => Acted B w v (moveS ⟨5, l, shut, g⟩ ⟨code, a, b⟩).1.L (moveS ⟨5, l, shut, g⟩ ⟨code, a, b⟩).2 e w' := by
  have hi := pairs_i64 (by decide) (by decide) hp
  have HO := hide' ho
  have HW := hide' (fun p q W => within_any p q W)
  have HS := hide' (fun n l2 h2 a2 b2 W p1 p2 => is_any n l2 h2 a2 b2 W p1 p2)
  have HLK : Hid (∀ k W, OwnI W B v l → Calls Try.prog 117 #[v, .int .i64 k] W fun e w' => e = .returned (.tuple #[.int .i64 (hasF k l), .bool (hitP k l)]) ∧ Below W.heap.size W w') := fun k W h => by
    rw [has_get]
    exact look_any v l k _ _ W (h.rd hi) hp (by omega)
  obtain ⟨ao, cap, rfl⟩ := ho.shape
  have HFU : Hid (∀ W, Calls Try.prog 119 #[.slice ao l.length cap] W fun e w' => e = .returned (.bool (decide (l.length = 128))) ∧ w' = W) := fun W => full_any ao l.length cap W
  obtain ⟨L', n', hE⟩ : ∃ L' n', moveS ⟨5, l, shut, g⟩ ⟨code, a, b⟩ = (⟨5, L', shut, g⟩, n') := by
    unfold moveS
    repeat' split
    all_goals exact ⟨_, _, rfl⟩
  rw [hE]
  have HE := hide' hE
  have HP := hide' hp
  have HI := hide' hi
  clear hE ho hp hi
  show Calls Try.prog _ _ w fun e w' => Acted B w (.slice ao l.length cap) L' n' e w'
  by_cases hk : 0 ≤ a ∧ a ≤ 65535
  · have HN := hide' (decide_eq_true hk)
    obtain ⟨hk0, hk1⟩ := hk
    by_cases hb : b < 0
    · have HR : Hid (L' = l ∧ n' = 0) := by
        have h := HE.out
        unfold moveS at h
        rw [if_pos (.inr (.inr hb))] at h
        injection h with h1 h2
        injection h1 with _ h3
        exact ⟨h3.symm, h2.symm⟩
      go_enter Try.func122, Try.ntmps122
      go_wp2_with fail
      refine (HW.out _ _ _).mono ?_
      rintro e W1 ⟨a1, b1, rfl, hc1, hc2, hb1⟩
      have HB1 := hide' (Mv.ofBelow hb1 (.slice ao l.length cap))
      have HO1 := hide' (HO.out.below hb1 (Nat.le_refl _))
      clear hb1
      go_wp2_with fail
      refine (HS.out _ _ _ _ _ _ hc1 hc2).mono ?_
      rintro e W2 ⟨rfl, rfl⟩
      rw [HN.out]
      go_wp2
      go_ret2
      exact ⟨_, ret_vi HR.out.2.symm, by rw [HR.out.1]; exact HO1.out, HB1.out⟩
    · have hb' : 0 ≤ b := by omega
      have HEQ : Hid ((if findF (a / 256) 0 l < 0 ∨ hasF (a / 256) l < b then ((⟨5, l, shut, g⟩ : St), (0 : Int)) else if a / 256 = a % 256 then (⟨5, l, shut, g⟩, 1) else if (findF (a % 256) 0 l < 0 ∧ l.length = 128) ∨ 1099511627776 < hasF (a % 256) l + b then (⟨5, l, shut, g⟩, 0) else (⟨5, withF (a % 256) (hasF (a % 256) l + b) false (withF (a / 256) (hasF (a / 256) l - b) false l), shut, g⟩, 1)) = (⟨5, L', shut, g⟩, n')) := by
        have h := HE.out
        unfold moveS at h
        rw [if_neg (by simp; omega)] at h
        exact h
      clear HE hb
      have HD1 : Hid (a.tdiv 256 = a / 256) := Int.tdiv_eq_ediv_of_nonneg hk0
      have HD2 : Hid (a.tmod 256 = a % 256) := Int.tmod_eq_emod_of_nonneg hk0
      have hF0 : 0 ≤ a / 256 := by omega
      have hF1 : a / 256 ≤ 255 := by omega
      have hT0 : 0 ≤ a % 256 := by omega
      have hT1 : a % 256 ≤ 255 := by omega
      have hbF := has_bounds HP.out (a / 256)
      have hbT := has_bounds HP.out (a % 256)
      obtain ⟨F, hF⟩ : ∃ F, F = a / 256 := ⟨_, rfl⟩
      obtain ⟨T, hT⟩ : ∃ T, T = a % 256 := ⟨_, rfl⟩
      rw [← hF] at HD1 HEQ hF0 hF1 hbF
      rw [← hT] at HD2 HEQ hT0 hT1 hbT
      clear hF hT
      have hd1 := HD1.out
      have hd2 := HD2.out
      go_enter Try.func122, Try.ntmps122
      go_wp2_with fail
      refine (HW.out _ _ _).mono ?_
      rintro e W1 ⟨a1, b1, rfl, hc1, hc2, hb1⟩
      have HB1 := hide' (Mv.ofBelow hb1 (.slice ao l.length cap))
      have HO1 := hide' (HO.out.below hb1 (Nat.le_refl _))
      clear hb1
      go_wp2_with fail
      refine (HS.out _ _ _ _ _ _ hc1 hc2).mono ?_
      rintro e W2 ⟨rfl, rfl⟩
      rw [HN.out]
      clear hc1 hc2
      go_wp2_with fail
      refine (HLK.out _ _ HO1.out).mono ?_
      rintro e W2 ⟨rfl, hb2⟩
      have HB2 := hide' (HB1.out.trans (Mv.ofBelow hb2 _))
      have HO2 := hide' (HO1.out.below hb2 (Nat.le_refl _))
      have hB2 : B ≤ W2.heap.size := Nat.le_trans hB HB2.out.size
      clear hb2 HB1 HO1
      cases hh : hitP F l
      · have HR : Hid (L' = l ∧ n' = 0) := by
          have h := HEQ.out
          rw [if_pos (.inl ((hit_find F l).2 hh))] at h
          injection h with h1 h2
          injection h1 with _ h3
          exact ⟨h3.symm, h2.symm⟩
        clear hh
        go_wp2
        go_ret2
        exact ⟨_, ret_vi HR.out.2.symm, by rw [HR.out.1]; exact HO2.out, HB2.out⟩
      · have HHF : Hid (¬ findF F 0 l < 0) := fun h => by rw [(hit_find F l).1 h] at hh; cases hh
        clear hh
        by_cases hlt : hasF F l < b
        · have HR : Hid (L' = l ∧ n' = 0) := by
            have h := HEQ.out
            rw [if_pos (.inr hlt)] at h
            injection h with h1 h2
            injection h1 with _ h3
            exact ⟨h3.symm, h2.symm⟩
          clear HHF
          go_wp2
          go_ret2
          exact ⟨_, ret_vi HR.out.2.symm, by rw [HR.out.1]; exact HO2.out, HB2.out⟩
        · by_cases hFT : F = T
          · have hq : (F == T) = true := beq_iff_eq.2 hFT
            have HR : Hid (L' = l ∧ n' = 1) := by
              have h := HEQ.out
              rw [if_neg (fun h => h.elim HHF.out hlt), if_pos hFT] at h
              injection h with h1 h2
              injection h1 with _ h3
              exact ⟨h3.symm, h2.symm⟩
            clear HHF hFT
            go_wp2
            go_ret2
            exact ⟨_, ret_vi HR.out.2.symm, by rw [HR.out.1]; exact HO2.out, HB2.out⟩
          · have hq : (F == T) = false := beq_eq_false_iff_ne.2 hFT
            have HNQ := hide' hFT
            have HLT := hide' hlt
            clear hFT
            go_wp2_with fail
            refine (HLK.out _ _ HO2.out).mono ?_
            rintro e W3 ⟨rfl, hb3⟩
            have HB3 := hide' (HB2.out.trans (Mv.ofBelow hb3 _))
            have HO3 := hide' (HO2.out.below hb3 (Nat.le_refl _))
            have hB3 : B ≤ W3.heap.size := Nat.le_trans hB HB3.out.size
            clear hb3 HB2 HO2 hB2
            by_cases hful : hitP T l = false ∧ l.length = 128
            · have HFD := hide' (decide_eq_true hful.2)
              have HR : Hid (L' = l ∧ n' = 0) := by
                have h := HEQ.out
                rw [if_neg (fun h => by have := HHF.out; have := HLT.out; omega), if_neg HNQ.out, if_pos (.inl ⟨(hit_find T l).2 hful.1, hful.2⟩)] at h
                injection h with h1 h2
                injection h1 with _ h3
                exact ⟨h3.symm, h2.symm⟩
              rw [hful.1]
              clear hful
              go_wp2_with fail
              refine (HFU.out _).mono ?_
              rintro e W4 ⟨rfl, rfl⟩
              rw [HFD.out]
              go_wp2
              go_ret2
              exact ⟨_, ret_vi HR.out.2.symm, by rw [HR.out.1]; exact HO3.out, HB3.out⟩
            · by_cases hbig : 1099511627776 < hasF T l + b
              · have HR : Hid (L' = l ∧ n' = 0) := by
                  have h := HEQ.out
                  rw [if_neg (fun h => by have := HHF.out; have := HLT.out; omega), if_neg HNQ.out, if_pos (.inr hbig)] at h
                  injection h with h1 h2
                  injection h1 with _ h3
                  exact ⟨h3.symm, h2.symm⟩
                cases hh : hitP T l
                · have HFD := hide' (decide_eq_false (fun h => hful ⟨hh, h⟩))
                  clear hful hh
                  go_wp2_with fail
                  refine (HFU.out _).mono ?_
                  rintro e W4 ⟨rfl, rfl⟩
                  rw [HFD.out]
                  go_wp2
                  go_ret2
                  exact ⟨_, ret_vi HR.out.2.symm, by rw [HR.out.1]; exact HO3.out, HB3.out⟩
                · clear hful hh
                  go_wp2
                  go_ret2
                  exact ⟨_, ret_vi HR.out.2.symm, by rw [HR.out.1]; exact HO3.out, HB3.out⟩
              · have HBIG := hide' hbig
                have HR : Hid (L' = withF T (hasF T l + b) false (withF F (hasF F l - b) false l) ∧ n' = 1) := by
                  have h := HEQ.out
                  rw [if_neg (fun h => by have := HHF.out; have := HLT.out; omega), if_neg HNQ.out, if_neg (fun h => h.elim (fun x => hful ⟨(hit_find T l).1 x.1, x.2⟩) (fun x => by have := HBIG.out; omega))] at h
                  injection h with h1 h2
                  injection h1 with _ h3
                  exact ⟨h3.symm, h2.symm⟩
                have HP1 : Hid (Pairs 0 (-1) (withF F (hasF F l - b) false l)) := withF_pairs F _ 0 (by omega) (by omega) hF1 l (-1) HP.out (by omega)
                have HL1 : Hid ((withF F (hasF F l - b) false l).length ≤ 1000000) := by
                  have := withF_length F (hasF F l - b) l false
                  show (withF F (hasF F l - b) false l).length ≤ 1000000
                  omega
                have HPA : Hid (∀ W, OwnI W B (.slice ao l.length cap) l → B ≤ W.heap.size → Calls Try.prog 120 #[.slice ao l.length cap, .int .i64 F, .int .i64 (hasF F l - b)] W fun e w' => ∃ v', e = .returned v' ∧ OwnI w' B v' (withF F (hasF F l - b) false l) ∧ Mv W w' (.slice ao l.length cap) v') := fun W h1 h2 => putO_any _ l F _ _ _ B W h1 h2 HI.out HP.out (by omega)
                have HPB : Hid (∀ v1 W, OwnI W B v1 (withF F (hasF F l - b) false l) → B ≤ W.heap.size → Calls Try.prog 120 #[v1, .int .i64 T, .int .i64 (hasF T l + b)] W fun e w' => ∃ v', e = .returned v' ∧ OwnI w' B v' (withF T (hasF T l + b) false (withF F (hasF F l - b) false l)) ∧ Mv W w' v1 v') := fun v1 W h1 h2 => putO_any v1 _ T _ _ _ B W h1 h2 (pairs_i64 (by decide) (by decide) HP1.out) HP1.out HL1.out
                generalize withF T (hasF T l + b) false (withF F (hasF F l - b) false l) = L2 at *
                generalize withF F (hasF F l - b) false l = L1 at *
                generalize hasF F l = y at *
                generalize hasF T l = z at *
                clear HP1 HL1 HEQ HLK
                cases hh : hitP T l
                · have HFD := hide' (decide_eq_false (fun h => hful ⟨hh, h⟩))
                  clear hful hh
                  go_wp2_with fail
                  refine (HFU.out _).mono ?_
                  rintro e W4 ⟨rfl, rfl⟩
                  rw [HFD.out]
                  go_wp2_with fail
                  refine (HPA.out _ HO3.out hB3).mono ?_
                  rintro e W5 ⟨v5, rfl, ho5, hb5⟩
                  have HB5 := hide' (HB3.out.trans hb5)
                  have HO5 := hide' ho5
                  have hB5 : B ≤ W5.heap.size := Nat.le_trans hB HB5.out.size
                  clear ho5 hb5
                  go_wp2_with fail
                  refine (HPB.out _ _ HO5.out hB5).mono ?_
                  rintro e W6 ⟨v6, rfl, ho6, hb6⟩
                  have HB6 := hide' (HB5.out.trans hb6)
                  have HO6 := hide' ho6
                  clear ho6 hb6
                  go_wp2
                  go_ret2
                  exact ⟨_, ret_vi HR.out.2.symm, by rw [HR.out.1]; exact HO6.out, HB6.out⟩
                · clear hful hh
                  go_wp2_with fail
                  refine (HPA.out _ HO3.out hB3).mono ?_
                  rintro e W5 ⟨v5, rfl, ho5, hb5⟩
                  have HB5 := hide' (HB3.out.trans hb5)
                  have HO5 := hide' ho5
                  have hB5 : B ≤ W5.heap.size := Nat.le_trans hB HB5.out.size
                  clear ho5 hb5
                  go_wp2_with fail
                  refine (HPB.out _ _ HO5.out hB5).mono ?_
                  rintro e W6 ⟨v6, rfl, ho6, hb6⟩
                  have HB6 := hide' (HB5.out.trans hb6)
                  have HO6 := hide' ho6
                  clear ho6 hb6
                  go_wp2
                  go_ret2
                  exact ⟨_, ret_vi HR.out.2.symm, by rw [HR.out.1]; exact HO6.out, HB6.out⟩
  · have HN := hide' (decide_eq_false hk)
    have HR : Hid (L' = l ∧ n' = 0) := by
      have h := HE.out
      unfold moveS at h
      rw [if_pos (show a < 0 ∨ 65535 < a ∨ b < 0 by omega)] at h
      injection h with h1 h2
      injection h1 with _ h3
      exact ⟨h3.symm, h2.symm⟩
    clear hk
    go_enter Try.func122, Try.ntmps122
    go_wp2_with fail
    refine (HW.out _ _ _).mono ?_
    rintro e W1 ⟨a1, b1, rfl, hc1, hc2, hb1⟩
    have HB1 := hide' (Mv.ofBelow hb1 (.slice ao l.length cap))
    have HO1 := hide' (HO.out.below hb1 (Nat.le_refl _))
    clear hb1
    go_wp2_with fail
    refine (HS.out _ _ _ _ _ _ hc1 hc2).mono ?_
    rintro e W2 ⟨rfl, rfl⟩
    rw [HN.out]
    go_wp2
    go_ret2
    exact ⟨_, ret_vi HR.out.2.symm, by rw [HR.out.1]; exact HO1.out, HB1.out⟩

end Go.Proofs.Ytgpdbboieokldaa

/- Contracts of objs: ledger, seal. -/
namespace Go.Proofs.Ytgpdbboieokldaa
open Go.RowKit

theorem hit_range {least key : Int} {l : List Int} (hp : Pairs least (-1) l) (h : hitP key l = true) : 0 ≤ key ∧ key ≤ 255 := by
  unfold hitP at h
  cases hg : getP key l with
  | none => rw [hg] at h; simp at h
  | some x =>
    have := getP_in hp hg
    omega

set_option maxRecDepth 100000 in
set_option maxHeartbeats 1000000 in
theorem ledgerO_any (v : Value) (l : List Int) (o : Opn) (shut : Bool) (g : Int) (B : Nat) (w : World) (ho : OwnI w B v l) (hB : B ≤ w.heap.size) (hp : Pairs 0 (-1) l) (hlim : l.length ≤ 128) :
    Calls Try.prog 110 #[v, opV o] w fun e w' => Acted B w v (ledgerS ⟨5, l, shut, g⟩ o).1.L (ledgerS ⟨5, l, shut, g⟩ o).2 e w' := by
  obtain ⟨code, a, b⟩ := o
  have hi := pairs_i64 (by decide) (by decide) hp
  have HO := hide' ho
  have HBA : Hid (∀ X, Mv w (w.alloc X) v v) := fun X => Mv.alloc w v X
  show Calls Try.prog _ #[_, .agg #[.int .i64 code, .int .i64 a, .int .i64 b]] w _
  by_cases c7 : code = 7
  · subst c7
    have HLK : Hid (∀ W, OwnI W B v l → Calls Try.prog 117 #[v, .int .i64 a] W fun e w' => e = .returned (.tuple #[.int .i64 ((getP a l).getD 0), .bool (hitP a l)]) ∧ Below W.heap.size W w') := fun W h => look_any v l a _ _ W (h.rd hi) hp (by omega)
    have HE : Hid (ledgerS ⟨5, l, shut, g⟩ ⟨7, a, b⟩ = (⟨5, l, shut, g⟩, hadF a l)) := by
      refine hide' ?_
      unfold ledgerS
      rw [if_neg (by simp), if_neg (by simp)]
      by_cases hk : a < 0 ∨ 255 < a
      · rw [if_pos hk]
        have hh : hitP a l = false := by
          cases h : hitP a l
          · rfl
          · have := hit_range hp h
            omega
        rw [had_miss hh]
      · rw [if_neg hk, if_pos rfl]
    rw [HE.out]
    clear HE ho hp hi
    cases hh : hitP a l
    · have HV := hide' (had_miss hh)
      rw [HV.out]
      rw [hh] at HLK
      clear HV hh
      generalize (getP a l).getD 0 = y at *
      go_enter Try.func110, Try.ntmps110
      go_wp2_with fail
      refine (HLK.out _ (HO.out.alloc _)).mono ?_
      rintro e W1 ⟨rfl, hb1⟩
      have HB1 := hide' ((HBA.out _).trans (Mv.ofBelow hb1 _))
      have HO1 := hide' ((HO.out.alloc _).below hb1 (Nat.le_refl _))
      clear hb1
      go_wp2
      go_ret2
      exact ⟨_, rfl, HO1.out, HB1.out⟩
    · have HV := hide' (had_hit hh)
      rw [HV.out]
      rw [hh] at HLK
      clear HV hh
      generalize (getP a l).getD 0 = y at *
      go_enter Try.func110, Try.ntmps110
      go_wp2_with fail
      refine (HLK.out _ (HO.out.alloc _)).mono ?_
      rintro e W1 ⟨rfl, hb1⟩
      have HB1 := hide' ((HBA.out _).trans (Mv.ofBelow hb1 _))
      have HO1 := hide' ((HO.out.alloc _).below hb1 (Nat.le_refl _))
      clear hb1
      go_wp2
      go_ret2
      exact ⟨_, rfl, HO1.out, HB1.out⟩
  · have e7 : (code == 7) = false := beq_eq_false_iff_ne.2 c7
    by_cases c8 : code = 8
    · subst c8
      have HP : Hid (∀ X, Calls Try.prog 121 #[v, .int .i64 a, .int .i64 b] (w.alloc X) fun e w' => Acted B (w.alloc X) v (ledgerS ⟨5, l, shut, g⟩ ⟨8, a, b⟩).1.L (ledgerS ⟨5, l, shut, g⟩ ⟨8, a, b⟩).2 e w') := fun X => deposit_any v l a b shut g B (w.alloc X) (HO.out.alloc X) (by simp; omega) hp hlim
      generalize (ledgerS ⟨5, l, shut, g⟩ ⟨8, a, b⟩).1.L = L' at *
      generalize (ledgerS ⟨5, l, shut, g⟩ ⟨8, a, b⟩).2 = n at *
      clear ho hi hp c7 e7
      go_enter Try.func110, Try.ntmps110
      go_wp2_with fail
      refine (HP.out _).mono ?_
      rintro e W1 ⟨v1, rfl, ho1, hb1⟩
      have HO1 := hide' ho1
      have HB1 := hide' ((HBA.out _).trans hb1)
      clear ho1 hb1
      go_wp2
      go_ret2
      exact ⟨_, rfl, HO1.out, HB1.out⟩
    · have e8 : (code == 8) = false := beq_eq_false_iff_ne.2 c8
      by_cases c9 : code = 9
      · have HE : Hid (ledgerS ⟨5, l, shut, g⟩ ⟨code, a, b⟩ = moveS ⟨5, l, shut, g⟩ ⟨code, a, b⟩) := if_pos c9
        rw [HE.out]
        have e9 : (code == 9) = true := beq_iff_eq.2 c9
        have HP : Hid (∀ X, Calls Try.prog 122 #[v, .int .i64 a, .int .i64 b] (w.alloc X) fun e w' => Acted B (w.alloc X) v (moveS ⟨5, l, shut, g⟩ ⟨code, a, b⟩).1.L (moveS ⟨5, l, shut, g⟩ ⟨code, a, b⟩).2 e w') := fun X => move_any v l code a b shut g B (w.alloc X) (HO.out.alloc X) (by simp; omega) hp hlim
        generalize (moveS ⟨5, l, shut, g⟩ ⟨code, a, b⟩).1.L = L' at *
        generalize (moveS ⟨5, l, shut, g⟩ ⟨code, a, b⟩).2 = n at *
        clear ho hi hp c7 c8 c9 HE
        go_enter Try.func110, Try.ntmps110
        go_wp2_with fail
        refine (HP.out _).mono ?_
        rintro e W1 ⟨v1, rfl, ho1, hb1⟩
        have HO1 := hide' ho1
        have HB1 := hide' ((HBA.out _).trans hb1)
        clear ho1 hb1
        go_wp2
        go_ret2
        exact ⟨_, rfl, HO1.out, HB1.out⟩
      · have e9 : (code == 9) = false := beq_eq_false_iff_ne.2 c9
        have HE : Hid (ledgerS ⟨5, l, shut, g⟩ ⟨code, a, b⟩ = (⟨5, l, shut, g⟩, 0)) := by
          refine hide' ?_
          unfold ledgerS
          rw [if_neg c9, if_pos ⟨c7, c8⟩]
        rw [HE.out]
        clear ho hi hp c7 c8 c9 HE
        go_enter Try.func110, Try.ntmps110
        go_wp2
        go_ret2
        exact ⟨_, rfl, HO.out.alloc _, HBA.out _⟩

set_option maxRecDepth 100000 in
set_option maxHeartbeats 2000000 in
theorem seal_any (kind : Int) (ao : Option Addr) (n cap : Nat) (shut : Bool) (g a : Int) (w : World) :
    Calls Try.prog 105 #[.agg #[.int .i64 kind, .slice ao n cap, .bool shut, .int .i64 g], .int .i64 a] w fun e w' => e = .returned (.agg #[.int .i64 kind, .slice ao n cap, .bool true, .int .i64 (if 0 ≤ a ∧ a ≤ 2 then a else g)]) ∧ Below w.heap.size w w' := by
  have HW := hide' (fun p q W => within_any p q W)
  have HS := hide' (fun n l2 h2 a2 b2 W p1 p2 => is_any n l2 h2 a2 b2 W p1 p2)
  have HBA : Hid (∀ x y, Below w.heap.size w ((w.alloc x).alloc y)) := fun x y => ((Below.refl _ _).alloc (Nat.le_refl _) x).alloc (by simp) y
  by_cases hk : 0 ≤ a ∧ a ≤ 2
  · rw [if_pos hk]
    have HN := hide' (decide_eq_true hk)
    clear hk
    go_enter Try.func105, Try.ntmps105
    go_wp2_with fail
    refine (HW.out _ _ _).mono ?_
    rintro e W1 ⟨a1, b1, rfl, hc1, hc2, hb1⟩
    have hbx : Box2 W1 w.heap.size _ _ := (Box2.made w _ _).below hb1 (by simp)
    have q0 := (hbx.s 0).1
    have q1 := (hbx.s 1).1
    have q2 := (hbx.s 2).1
    have q3 := (hbx.s 3).1
    have f2 := (hbx.s 2).2
    have f3 := (hbx.s 3).2
    have r0 := (hbx.r 0).1
    have r1 := (hbx.r 1).1
    have r2 := (hbx.r 2).1
    have r3 := (hbx.r 3).1
    have s0 := (hbx.r 0).2
    have s1 := (hbx.r 1).2
    have s2 := (hbx.r 2).2
    have s3 := (hbx.r 3).2
    have HB1 := hide' ((HBA.out _ _).trans (hb1.mono (HBA.out _ _).size))
    have HC1 : Hid (∀ x, (W1.setCell ⟨w.heap.size, 2, none⟩ x).cell? ⟨a1, 0, none⟩ = some (.int .i64 0)) := fun x => (World.cell?_setCell_other _ _ _ _ (by simp)).trans hc1
    have HC2 : Hid (∀ x, (W1.setCell ⟨w.heap.size, 2, none⟩ x).cell? ⟨b1, 0, none⟩ = some (.int .i64 2)) := fun x => (World.cell?_setCell_other _ _ _ _ (by simp)).trans hc2
    clear hb1 hbx hc1 hc2
    go_wp2_with fail
    refine (HS.out _ _ _ _ _ _ (HC1.out _) (HC2.out _)).mono ?_
    rintro e W2 ⟨rfl, rfl⟩
    rw [HN.out]
    go_wp2
    refine bodyPost_ret (v := .agg #[.int .i64 kind, .slice ao n cap, .bool true, .int .i64 a]) (by simp [results, Try.results105, go_sem, r0, r1, r2, r3]) rfl ?_
    exact ⟨rfl, ((((((HB1.out.setCell (Nat.le_refl _) _).setCell (Nat.le_refl _) _).setCell (Nat.le_succ _) _).setCell (Nat.le_succ _) _).setCell (Nat.le_succ _) _).setCell (Nat.le_succ _) _)⟩
  · rw [if_neg hk]
    have HN := hide' (decide_eq_false hk)
    clear hk
    go_enter Try.func105, Try.ntmps105
    go_wp2_with fail
    refine (HW.out _ _ _).mono ?_
    rintro e W1 ⟨a1, b1, rfl, hc1, hc2, hb1⟩
    have hbx : Box2 W1 w.heap.size _ _ := (Box2.made w _ _).below hb1 (by simp)
    have q0 := (hbx.s 0).1
    have q1 := (hbx.s 1).1
    have q2 := (hbx.s 2).1
    have q3 := (hbx.s 3).1
    have f2 := (hbx.s 2).2
    have f3 := (hbx.s 3).2
    have r0 := (hbx.r 0).1
    have r1 := (hbx.r 1).1
    have r2 := (hbx.r 2).1
    have r3 := (hbx.r 3).1
    have s0 := (hbx.r 0).2
    have s1 := (hbx.r 1).2
    have s2 := (hbx.r 2).2
    have s3 := (hbx.r 3).2
    have HB1 := hide' ((HBA.out _ _).trans (hb1.mono (HBA.out _ _).size))
    have HC1 : Hid (∀ x, (W1.setCell ⟨w.heap.size, 2, none⟩ x).cell? ⟨a1, 0, none⟩ = some (.int .i64 0)) := fun x => (World.cell?_setCell_other _ _ _ _ (by simp)).trans hc1
    have HC2 : Hid (∀ x, (W1.setCell ⟨w.heap.size, 2, none⟩ x).cell? ⟨b1, 0, none⟩ = some (.int .i64 2)) := fun x => (World.cell?_setCell_other _ _ _ _ (by simp)).trans hc2
    clear hb1 hbx hc1 hc2
    go_wp2_with fail
    refine (HS.out _ _ _ _ _ _ (HC1.out _) (HC2.out _)).mono ?_
    rintro e W2 ⟨rfl, rfl⟩
    rw [HN.out]
    go_wp2
    refine bodyPost_ret (v := .agg #[.int .i64 kind, .slice ao n cap, .bool true, .int .i64 g]) (by simp [results, Try.results105, go_sem, r0, r1, r2, r3]) rfl ?_
    exact ⟨rfl, (((((HB1.out.setCell (Nat.le_refl _) _).setCell (Nat.le_succ _) _).setCell (Nat.le_succ _) _).setCell (Nat.le_succ _) _).setCell (Nat.le_succ _) _)⟩

end Go.Proofs.Ytgpdbboieokldaa

/- Contracts of objs: act. -/
namespace Go.Proofs.Ytgpdbboieokldaa
open Go.RowKit

/-- The boxes of a call stay while a row that is none of them is changed. -/
theorem Boxes.mv {W W1 : World} {N : Nat} {s o r : Array Value} {v v' : Value} (h : Boxes W N s o r) (hv : ∀ b, v.ownBlock = some b → b < N) (hm : Mv W W1 v v') : Boxes W1 N s o r := by
  obtain ⟨h1, h2, h3⟩ := h
  have lt : ∀ k x, W.heap[k]? = some x → N ≤ k → W1.heap[k]? = some x := fun k x hk hN => by
    rw [hm.grown.block k (Array.getElem?_eq_some_iff.1 hk).1 (fun e => by have := hv k e.symm; omega)]
    exact hk
  exact ⟨lt _ _ h1 (by omega), lt _ _ h2 (by omega), lt _ _ h3 (by omega)⟩

/-- What a call makes of numbers, behind the writing of its boxes. -/
theorem act_fin {w W0 W1 F : World} {B : Nat} {v v' : Value} {l L' : List Int} (h0 : OwnI w B v l) (hb : Below w.heap.size w W0) (hs : W0.heap.size = w.heap.size + 3) (hm : Mv W0 W1 v v') (ho : OwnI W1 B v' L') (hF : But w.heap.size (w.heap.size + 1 + 1) W1 F) : OwnI F B v' L' ∧ Mv w F v v' := by
  have hv : ∀ b, v.ownBlock = some b → b < w.heap.size := fun b h => (World.ownsRow.lt h0 b h).2
  have hlies : ∀ b, v'.ownBlock = some b → v.ownBlock = some b ∨ w.heap.size + 3 ≤ b := fun b h => by
    rcases hm.lies b h with h' | h'
    · exact .inl h'
    · exact .inr (by omega)
  have hsz := hm.size
  refine ⟨ho.but hF (fun b h => ?_), ⟨⟨hF.os.trans (hm.grown.os.trans hb.os), hF.tape.trans (hm.grown.tape.trans hb.tape), hF.output.trans (hm.grown.output.trans hb.output), by have := hF.size; omega, fun k hk hne => ?_⟩, fun b h => ?_⟩⟩
  · rcases hlies b h with h' | h'
    · have := hv b h'
      omega
    · omega
  · rw [hF.block k (by omega) (by omega) (by omega), hm.grown.block k (by omega) hne]
    exact hb.block k hk
  · rcases hlies b h with h' | h'
    · exact .inl h'
    · exact .inr (by omega)

theorem three_boxes (w : World) (x y z : Obj) : Below w.heap.size w (((w.alloc x).alloc y).alloc z) ∧ (((w.alloc x).alloc y).alloc z).heap.size = w.heap.size + 3 :=
  ⟨(((Below.refl _ _).alloc (Nat.le_refl _) x).alloc (by simp) y).alloc (by simp; omega) z, by simp⟩

theorem OwnI.alloc3 {w : World} {B : Nat} {v : Value} {l : List Int} (h : OwnI w B v l) (x y z : Obj) : OwnI (((w.alloc x).alloc y).alloc z) B v l := ((h.alloc x).alloc y).alloc z

/-- What act answers. -/
def Did (B : Nat) (w : World) (v : Value) (r : St × Int) (e : Ending) (w' : World) : Prop :=
  ∃ v', e = .returned (.tuple #[.agg #[.int .i64 r.1.kind, v', .bool r.1.shut, .int .i64 r.1.eng], .int .i64 r.2]) ∧ OwnI w' B v' r.1.L ∧ Mv w w' v v'

set_option maxRecDepth 100000 in
set_option maxHeartbeats 2000000 in
theorem actShut_any (kind g : Int) (l : List Int) (v : Value) (o : Opn) (B : Nat) (w : World) (ho : OwnI w B v l) :
    Calls Try.prog 83 #[.agg #[.int .i64 kind, v, .bool true, .int .i64 g], opV o] w fun e w' => Did B w v (⟨kind, l, true, g⟩, -1125899906842624) e w' := by
  obtain ⟨code, a, b⟩ := o
  have HO := hide' ho
  obtain ⟨ao, cap, rfl⟩ := ho.shape
  have HM : Hid (∀ x y z, Mv w (((w.alloc x).alloc y).alloc z) (.slice ao l.length cap) (.slice ao l.length cap)) := fun x y z => Mv.ofBelow (three_boxes w x y z).1 _
  clear ho
  show Calls Try.prog _ #[_, .agg #[.int .i64 code, .int .i64 a, .int .i64 b]] w _
  go_enter Try.func83, Try.ntmps83
  go_wp2
  refine bodyPost_ret (v := .tuple #[.agg #[.int .i64 kind, .slice ao l.length cap, .bool true, .int .i64 g], .int .i64 (-1125899906842624)]) (by simp [results, Try.results83, go_sem]) rfl ?_
  exact ⟨_, rfl, HO.out.alloc3 _ _ _, HM.out _ _ _⟩

set_option maxRecDepth 100000 in
set_option maxHeartbeats 2000000 in
theorem actSeal_any (kind g a b : Int) (l : List Int) (v : Value) (B : Nat) (w : World) (ho : OwnI w B v l) :
    Calls Try.prog 83 #[.agg #[.int .i64 kind, v, .bool false, .int .i64 g], .agg #[.int .i64 10, .int .i64 a, .int .i64 b]] w fun e w' => Did B w v (⟨kind, l, true, if 0 ≤ a ∧ a ≤ 2 then a else g⟩, 0) e w' := by
  have HO := hide' ho
  obtain ⟨ao, cap, rfl⟩ := ho.shape
  have HSL := hide' (fun W => seal_any kind ao l.length cap false g a W)
  generalize (if 0 ≤ a ∧ a ≤ 2 then a else g) = t at *
  clear ho
  go_enter Try.func83, Try.ntmps83
  go_wp2_with fail
  refine (HSL.out _).mono ?_
  rintro e W1 ⟨rfl, hb1⟩
  have hbx := (Boxes.made w _ _ _).below hb1 (by simp)
  obtain ⟨r0, s0⟩ := hbx.r 0
  obtain ⟨r1, s1⟩ := hbx.r 1
  obtain ⟨r2, s2⟩ := hbx.r 2
  obtain ⟨r3, s3⟩ := hbx.r 3
  have HFIN := hide' (fun F hF => act_fin (F := F) HO.out (three_boxes w _ _ _).1 (three_boxes w _ _ _).2 (Mv.ofBelow hb1 _) ((HO.out.alloc3 _ _ _).below hb1 (Nat.le_refl _)) hF)
  clear hb1 hbx
  go_wp2
  refine bodyPost_ret (v := .tuple #[.agg #[.int .i64 kind, .slice ao l.length cap, .bool true, .int .i64 t], .int .i64 0]) (by simp [results, Try.results83, go_sem, r0, r1, r2, r3]) rfl ?_
  exact ⟨_, rfl, HFIN.out _ ((But.refl _ _ _).four _ (.inr rfl) _ _ _ _)⟩

set_option maxRecDepth 100000 in
set_option maxHeartbeats 2000000 in
theorem actOne_any (kind g : Int) (hk : kind = 0 ∨ kind = 1) (l : List Int) (v : Value) (o : Opn) (hc : o.code ≠ 10) (B : Nat) (w : World) (ho : OwnI w B v l) (hl : l.length = 1) (hb0 : -1099511627776 ≤ l.getD 0 0) (hb1 : l.getD 0 0 ≤ 1099511627776) :
    Calls Try.prog 83 #[.agg #[.int .i64 kind, v, .bool false, .int .i64 g], opV o] w fun e w' => Did B w v (oneS ⟨kind, l, false, g⟩ o) e w' := by
  have HO := hide' ho
  have hknd := one_kind ⟨kind, l, false, g⟩ o
  obtain ⟨L', n', hE⟩ : ∃ L' n', oneS ⟨kind, l, false, g⟩ o = (⟨kind, L', false, g⟩, n') := by
    obtain ⟨h1, h2, h3⟩ := hknd
    refine ⟨(oneS ⟨kind, l, false, g⟩ o).1.L, (oneS ⟨kind, l, false, g⟩ o).2, ?_⟩
    rcases hr : oneS ⟨kind, l, false, g⟩ o with ⟨⟨k1, l1, s1, g1⟩, n1⟩
    rw [hr] at h1 h2 h3
    simp only at h1 h2 h3
    rw [h1, h2, h3]
  have HC : Hid (∀ W, OwnI W B v l → Calls Try.prog (if kind = 0 then 106 else 107) #[v, opV o] W fun e w' => e = .returned (.int .i64 n') ∧ OwnI w' B v L' ∧ Mv W w' v v) := fun W h => by
    rcases hk with rfl | rfl
    · have := counter_any v l o false g B W h hl hb0 hb1
      rw [hE] at this
      exact this
    · have := register_any v l o false g B W h hl
      rw [hE] at this
      exact this
  rw [hE]
  obtain ⟨code, a, b⟩ := o
  have e10 : (code == 10) = false := beq_eq_false_iff_ne.2 hc
  obtain ⟨ao, cap, rfl⟩ := ho.shape
  have hv : ∀ b, (Value.slice ao l.length cap).ownBlock = some b → b < w.heap.size := fun b h => (World.ownsRow.lt ho b h).2
  have HV := hide' hv
  clear ho hE hknd hc hl hb0 hb1 hv
  show Calls Try.prog _ #[_, .agg #[.int .i64 code, .int .i64 a, .int .i64 b]] w _
  rcases hk with rfl | rfl
  · rw [if_pos rfl] at HC
    go_enter Try.func83, Try.ntmps83
    go_wp2_with fail
    refine (HC.out _ (HO.out.alloc3 _ _ _)).mono ?_
    rintro e W1 ⟨rfl, ho1, hm1⟩
    have hbx := (Boxes.made w _ _ _).mv HV.out hm1
    obtain ⟨q0, -⟩ := hbx.s 0
    obtain ⟨q1, -⟩ := hbx.s 1
    obtain ⟨q2, -⟩ := hbx.s 2
    obtain ⟨q3, -⟩ := hbx.s 3
    obtain ⟨r0, s0⟩ := hbx.r 0
    obtain ⟨r1, s1⟩ := hbx.r 1
    obtain ⟨r2, s2⟩ := hbx.r 2
    obtain ⟨r3, s3⟩ := hbx.r 3
    have HFIN := hide' (fun F hF => act_fin (F := F) HO.out (three_boxes w _ _ _).1 (three_boxes w _ _ _).2 hm1 ho1 hF)
    clear hbx ho1 hm1
    go_wp2
    refine bodyPost_ret (v := .tuple #[.agg #[.int .i64 0, .slice ao l.length cap, .bool false, .int .i64 g], .int .i64 n']) (by simp [results, Try.results83, go_sem, r0, r1, r2, r3]) rfl ?_
    exact ⟨_, rfl, HFIN.out _ ((But.refl _ _ _).four _ (.inr rfl) _ _ _ _)⟩
  · rw [if_neg (by decide)] at HC
    go_enter Try.func83, Try.ntmps83
    go_wp2_with fail
    refine (HC.out _ (HO.out.alloc3 _ _ _)).mono ?_
    rintro e W1 ⟨rfl, ho1, hm1⟩
    have hbx := (Boxes.made w _ _ _).mv HV.out hm1
    obtain ⟨q0, -⟩ := hbx.s 0
    obtain ⟨q1, -⟩ := hbx.s 1
    obtain ⟨q2, -⟩ := hbx.s 2
    obtain ⟨q3, -⟩ := hbx.s 3
    obtain ⟨r0, s0⟩ := hbx.r 0
    obtain ⟨r1, s1⟩ := hbx.r 1
    obtain ⟨r2, s2⟩ := hbx.r 2
    obtain ⟨r3, s3⟩ := hbx.r 3
    have HFIN := hide' (fun F hF => act_fin (F := F) HO.out (three_boxes w _ _ _).1 (three_boxes w _ _ _).2 hm1 ho1 hF)
    clear hbx ho1 hm1
    go_wp2
    refine bodyPost_ret (v := .tuple #[.agg #[.int .i64 1, .slice ao l.length cap, .bool false, .int .i64 g], .int .i64 n']) (by simp [results, Try.results83, go_sem, r0, r1, r2, r3]) rfl ?_
    exact ⟨_, rfl, HFIN.out _ ((But.refl _ _ _).four _ (.inr rfl) _ _ _ _)⟩

/-- A call that hands back the numbers and an answer. -/
theorem actMid {w W1 : World} {B : Nat} {kind g : Int} {l L' : List Int} {ao ao1 : Option Addr} {cap cap1 : Nat} {xs xo xr : Array Value} (h0 : OwnI w B (.slice ao l.length cap) l) (ho1 : OwnI W1 B (.slice ao1 L'.length cap1) L') (hm1 : Mv (((w.alloc (.cells xs 24)).alloc (.cells xo 62)).alloc (.cells xr 24)) W1 (.slice ao l.length cap) (.slice ao1 L'.length cap1)) :
    OwnI (wrote5 W1 w.heap.size (w.heap.size + 1 + 1) (.slice ao1 L'.length cap1) (.int .i64 kind) (.slice ao1 L'.length cap1) (.bool false) (.int .i64 g)) B (.slice ao1 L'.length cap1) L' ∧ Mv w (wrote5 W1 w.heap.size (w.heap.size + 1 + 1) (.slice ao1 L'.length cap1) (.int .i64 kind) (.slice ao1 L'.length cap1) (.bool false) (.int .i64 g)) (.slice ao l.length cap) (.slice ao1 L'.length cap1) :=
  act_fin h0 (three_boxes w _ _ _).1 (three_boxes w _ _ _).2 hm1 ho1 (((But.refl _ _ _).set _ _ (.inl rfl) _).four _ (.inr rfl) _ _ _ _)

set_option maxRecDepth 100000 in
set_option maxHeartbeats 2000000 in
theorem actLine_any (kind g : Int) (hk : kind = 2 ∨ kind = 3) (l L' : List Int) (n' : Int) (v : Value) (code a b : Int) (hc : code ≠ 10) (B : Nat) (w : World) (ho : OwnI w B v l)
    (HC : Hid (∀ W, OwnI W B v l → B ≤ W.heap.size → Calls Try.prog 108 #[.int .i64 kind, v, .agg #[.int .i64 code, .int .i64 a, .int .i64 b]] W fun e w' => Acted B W v L' n' e w')) (hB : B ≤ w.heap.size) :
    Calls Try.prog 83 #[.agg #[.int .i64 kind, v, .bool false, .int .i64 g], .agg #[.int .i64 code, .int .i64 a, .int .i64 b]] w fun e w' => Did B w v (⟨kind, L', false, g⟩, n') e w' := by
  have HO := hide' ho
  have e10 : (code == 10) = false := beq_eq_false_iff_ne.2 hc
  obtain ⟨ao, cap, rfl⟩ := ho.shape
  have hv : ∀ b, (Value.slice ao l.length cap).ownBlock = some b → b < w.heap.size := fun b h => (World.ownsRow.lt ho b h).2
  have HV := hide' hv
  clear ho hc hv
  rcases hk with rfl | rfl
  · go_enter Try.func83, Try.ntmps83
    go_wp2_with fail
    refine (HC.out _ (HO.out.alloc3 _ _ _) (by simp; omega)).mono ?_
    rintro e W1 ⟨v1, rfl, ho1, hm1⟩
    obtain ⟨ao1, cap1, rfl⟩ := ho1.shape
    have hbx := (Boxes.made w _ _ _).mv HV.out hm1
    obtain ⟨q0, -⟩ := hbx.s 0
    obtain ⟨q1, f1⟩ := hbx.s 1
    obtain ⟨q2, -⟩ := hbx.s 2
    obtain ⟨q3, -⟩ := hbx.s 3
    obtain ⟨r0, s0⟩ := hbx.r 0
    obtain ⟨r1, s1⟩ := hbx.r 1
    obtain ⟨r2, s2⟩ := hbx.r 2
    obtain ⟨r3, s3⟩ := hbx.r 3
    have HFIN := hide' (fun kind => actMid (kind := kind) (g := g) HO.out ho1 hm1)
    clear hbx ho1 hm1
    go_wp2
    refine bodyPost_ret (v := .tuple #[.agg #[.int .i64 2, .slice ao1 L'.length cap1, .bool false, .int .i64 g], .int .i64 n']) (by simp [results, Try.results83, go_sem, r0, r1, r2, r3]) rfl ?_
    exact ⟨_, rfl, HFIN.out _⟩
  · go_enter Try.func83, Try.ntmps83
    go_wp2_with fail
    refine (HC.out _ (HO.out.alloc3 _ _ _) (by simp; omega)).mono ?_
    rintro e W1 ⟨v1, rfl, ho1, hm1⟩
    obtain ⟨ao1, cap1, rfl⟩ := ho1.shape
    have hbx := (Boxes.made w _ _ _).mv HV.out hm1
    obtain ⟨q0, -⟩ := hbx.s 0
    obtain ⟨q1, f1⟩ := hbx.s 1
    obtain ⟨q2, -⟩ := hbx.s 2
    obtain ⟨q3, -⟩ := hbx.s 3
    obtain ⟨r0, s0⟩ := hbx.r 0
    obtain ⟨r1, s1⟩ := hbx.r 1
    obtain ⟨r2, s2⟩ := hbx.r 2
    obtain ⟨r3, s3⟩ := hbx.r 3
    have HFIN := hide' (fun kind => actMid (kind := kind) (g := g) HO.out ho1 hm1)
    clear hbx ho1 hm1
    go_wp2
    refine bodyPost_ret (v := .tuple #[.agg #[.int .i64 3, .slice ao1 L'.length cap1, .bool false, .int .i64 g], .int .i64 n']) (by simp [results, Try.results83, go_sem, r0, r1, r2, r3]) rfl ?_
    exact ⟨_, rfl, HFIN.out _⟩

set_option maxRecDepth 100000 in
set_option maxHeartbeats 2000000 in
theorem actStore_any (kind g : Int) (hk : kind = 4) (l L' : List Int) (n' : Int) (v : Value) (code a b : Int) (hc : code ≠ 10) (B : Nat) (w : World) (ho : OwnI w B v l)
    (HC : Hid (∀ W, OwnI W B v l → B ≤ W.heap.size → Calls Try.prog 109 #[v, .agg #[.int .i64 code, .int .i64 a, .int .i64 b]] W fun e w' => Acted B W v L' n' e w')) (hB : B ≤ w.heap.size) :
    Calls Try.prog 83 #[.agg #[.int .i64 kind, v, .bool false, .int .i64 g], .agg #[.int .i64 code, .int .i64 a, .int .i64 b]] w fun e w' => Did B w v (⟨kind, L', false, g⟩, n') e w' := by
  have HO := hide' ho
  have e10 : (code == 10) = false := beq_eq_false_iff_ne.2 hc
  obtain ⟨ao, cap, rfl⟩ := ho.shape
  have hv : ∀ b, (Value.slice ao l.length cap).ownBlock = some b → b < w.heap.size := fun b h => (World.ownsRow.lt ho b h).2
  have HV := hide' hv
  clear ho hc hv
  subst hk
  all_goals
    go_enter Try.func83, Try.ntmps83
    go_wp2_with fail
    refine (HC.out _ (HO.out.alloc3 _ _ _) (by simp; omega)).mono ?_
    rintro e W1 ⟨v1, rfl, ho1, hm1⟩
    obtain ⟨ao1, cap1, rfl⟩ := ho1.shape
    have hbx := (Boxes.made w _ _ _).mv HV.out hm1
    obtain ⟨q0, -⟩ := hbx.s 0
    obtain ⟨q1, f1⟩ := hbx.s 1
    obtain ⟨q2, -⟩ := hbx.s 2
    obtain ⟨q3, -⟩ := hbx.s 3
    obtain ⟨r0, s0⟩ := hbx.r 0
    obtain ⟨r1, s1⟩ := hbx.r 1
    obtain ⟨r2, s2⟩ := hbx.r 2
    obtain ⟨r3, s3⟩ := hbx.r 3
    have HFIN := hide' (fun kind => actMid (kind := kind) (g := g) HO.out ho1 hm1)
    clear hbx ho1 hm1
    go_wp2
    refine bodyPost_ret (v := .tuple #[.agg #[.int .i64 4, .slice ao1 L'.length cap1, .bool false, .int .i64 g], .int .i64 n']) (by simp [results, Try.results83, go_sem, r0, r1, r2, r3]) rfl ?_
    exact ⟨_, rfl, HFIN.out _⟩

set_option maxRecDepth 100000 in
set_option maxHeartbeats 2000000 in
theorem actLedger_any (kind g : Int) (hk : kind = 5) (l L' : List Int) (n' : Int) (v : Value) (code a b : Int) (hc : code ≠ 10) (B : Nat) (w : World) (ho : OwnI w B v l)
    (HC : Hid (∀ W, OwnI W B v l → B ≤ W.heap.size → Calls Try.prog 110 #[v, .agg #[.int .i64 code, .int .i64 a, .int .i64 b]] W fun e w' => Acted B W v L' n' e w')) (hB : B ≤ w.heap.size) :
    Calls Try.prog 83 #[.agg #[.int .i64 kind, v, .bool false, .int .i64 g], .agg #[.int .i64 code, .int .i64 a, .int .i64 b]] w fun e w' => Did B w v (⟨kind, L', false, g⟩, n') e w' := by
  have HO := hide' ho
  have e10 : (code == 10) = false := beq_eq_false_iff_ne.2 hc
  obtain ⟨ao, cap, rfl⟩ := ho.shape
  have hv : ∀ b, (Value.slice ao l.length cap).ownBlock = some b → b < w.heap.size := fun b h => (World.ownsRow.lt ho b h).2
  have HV := hide' hv
  clear ho hc hv
  subst hk
  all_goals
    go_enter Try.func83, Try.ntmps83
    go_wp2_with fail
    refine (HC.out _ (HO.out.alloc3 _ _ _) (by simp; omega)).mono ?_
    rintro e W1 ⟨v1, rfl, ho1, hm1⟩
    obtain ⟨ao1, cap1, rfl⟩ := ho1.shape
    have hbx := (Boxes.made w _ _ _).mv HV.out hm1
    obtain ⟨q0, -⟩ := hbx.s 0
    obtain ⟨q1, f1⟩ := hbx.s 1
    obtain ⟨q2, -⟩ := hbx.s 2
    obtain ⟨q3, -⟩ := hbx.s 3
    obtain ⟨r0, s0⟩ := hbx.r 0
    obtain ⟨r1, s1⟩ := hbx.r 1
    obtain ⟨r2, s2⟩ := hbx.r 2
    obtain ⟨r3, s3⟩ := hbx.r 3
    have HFIN := hide' (fun kind => actMid (kind := kind) (g := g) HO.out ho1 hm1)
    clear hbx ho1 hm1
    go_wp2
    refine bodyPost_ret (v := .tuple #[.agg #[.int .i64 5, .slice ao1 L'.length cap1, .bool false, .int .i64 g], .int .i64 n']) (by simp [results, Try.results83, go_sem, r0, r1, r2, r3]) rfl ?_
    exact ⟨_, rfl, HFIN.out _⟩

end Go.Proofs.Ytgpdbboieokldaa

/- Contracts of objs: Start, own, seal. -/
namespace Go.Proofs.Ytgpdbboieokldaa
open Go.RowKit

set_option maxRecDepth 100000 in
set_option maxHeartbeats 2000000 in
theorem ownS_any (v : Value) (s : St) (w : World) (hs : StV w v s) (hlim : s.L.length ≤ 1000000) :
    Calls Try.prog 82 #[v] w fun e w' => ∃ vl', e = .returned (.agg #[.int .i64 s.kind, vl', .bool s.shut, .int .i64 s.eng]) ∧ OwnI w' w.heap.size vl' s.L ∧ Below w.heap.size w w' := by
  obtain ⟨vl, rfl, hr, -, -⟩ := hs
  obtain ⟨kind, l, shut, g⟩ := s
  simp only at hr hlim ⊢
  have HC : Hid (∀ W, Below w.heap.size w W → Calls Try.prog 27 #[vl] W fun e w' => ∃ v', e = .returned v' ∧ OwnI w' W.heap.size v' l ∧ Below W.heap.size W w') := fun W h => cloneI_any vl l W (hr.below h (Nat.le_refl _)) hlim
  have HBA : Hid (∀ x y, Below w.heap.size w ((w.alloc x).alloc y)) := fun x y => ((Below.refl _ _).alloc (Nat.le_refl _) x).alloc (by simp) y
  clear hr hlim
  go_enter Try.func82, Try.ntmps82
  go_wp2_with fail
  refine (HC.out _ (HBA.out _ _)).mono ?_
  rintro e W1 ⟨v1, rfl, ho, hb1⟩
  have hbx : Box2 W1 w.heap.size _ _ := (Box2.made w _ _).below hb1 (by simp)
  have q0 := (hbx.s 0).1
  have q1 := (hbx.s 1).1
  have q2 := (hbx.s 2).1
  have q3 := (hbx.s 3).1
  have f1 := (hbx.s 1).2
  have r0 := (hbx.r 0).1
  have r1 := (hbx.r 1).1
  have r2 := (hbx.r 2).1
  have r3 := (hbx.r 3).1
  have s0 := (hbx.r 0).2
  have s1 := (hbx.r 1).2
  have s2 := (hbx.r 2).2
  have s3 := (hbx.r 3).2
  have HB1 := hide' ((HBA.out _ _).trans (hb1.mono (HBA.out _ _).size))
  have ho2 : OwnI W1 (w.heap.size + 1 + 1) v1 l := by
    have e : ∀ x y, ((w.alloc x).alloc y).heap.size = w.heap.size + 1 + 1 := fun x y => by simp
    rwa [e] at ho
  have HO := hide' ho2
  obtain ⟨ao, cap, rfl⟩ := ho2.shape
  clear hb1 hbx ho ho2
  go_wp2
  refine bodyPost_ret (v := .agg #[.int .i64 kind, .slice ao l.length cap, .bool shut, .int .i64 g]) (by simp [results, Try.results82, go_sem, r0, r1, r2, r3]) rfl ?_
  exact ⟨_, rfl, (HO.out.five w.heap.size (w.heap.size + 1) (by omega) (by omega) _ _ _ _ _).mono (by omega), belowFive HB1.out w.heap.size (w.heap.size + 1) (Nat.le_refl _) (by omega) _ _ _ _ _⟩

end Go.Proofs.Ytgpdbboieokldaa

