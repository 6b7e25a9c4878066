/- Blocks of records as bytes, over plain lists, and what follows. -/
import Derived.Test.YtgmdhlchdjlgnabSchemaPlain
namespace Go.Proofs.Ytgmdhlchdjlgnab

/-- The Seq of the last record that has a process; 0: there is none. -/
def lastSeq (l : List Rec) (p : Int) : Int := l.foldl (fun a r => if r.proc = p then r.seq else a) 0

theorem lastSeq_snoc (l : List Rec) (r : Rec) (p : Int) : lastSeq (l ++ [r]) p = if r.proc = p then r.seq else lastSeq l p := by
  unfold lastSeq
  rw [List.foldl_append]
  rfl

theorem lastSeq_nil (p : Int) : lastSeq [] p = 0 := rfl

theorem lastSeq_bd {l : List Rec} (p : Int) : (∀ r ∈ l, FitsR r) → 0 ≤ lastSeq l p ∧ lastSeq l p < 4611686018427387904 := by
  unfold lastSeq
  suffices h : ∀ (l : List Rec) (a : Int), (∀ r ∈ l, FitsR r) → 0 ≤ a → a < 4611686018427387904 → 0 ≤ l.foldl (fun a r => if r.proc = p then r.seq else a) a ∧ l.foldl (fun a r => if r.proc = p then r.seq else a) a < 4611686018427387904 by
    exact fun hl => h l 0 hl (by decide) (by decide)
  intro l
  induction l with
  | nil => intro a _ h0 h1; exact ⟨h0, h1⟩
  | cons r t ih =>
    intro a hf h0 h1
    rw [List.foldl_cons]
    have hr := hf r (by simp)
    obtain ⟨_, _, _, hs0, hs1, _⟩ := hr
    by_cases hp : r.proc = p
    · rw [if_pos hp]
      exact ih _ (fun s hs => hf s (by simp [hs])) hs0 hs1
    · rw [if_neg hp]
      exact ih _ (fun s hs => hf s (by simp [hs])) h0 h1

/-- A record behind others, as bytes. -/
def encOne (pre : List Rec) (r : Rec) : List UInt8 :=
  Lib.uvarint r.proc.toNat ++ (Lib.uvarint (Lib.zigzag (r.seq - lastSeq pre r.proc)) ++ (putOpL r.op ++ Lib.uvarint (Lib.zigzag r.resp)))

/-- Records behind others, as bytes. -/
def encRs (pre : List Rec) : List Rec → List UInt8
  | [] => []
  | r :: t => encOne pre r ++ encRs (pre ++ [r]) t

/-- A block's bytes. -/
def encB (l : List Rec) : List UInt8 := Lib.uvarint (l.headD zeroR).idx.toNat ++ (Lib.uvarint l.length ++ encRs [] l)

/-- Is each Index one more than the one ahead? -/
def chainR : Int → List Rec → Prop
  | _, [] => True
  | i, r :: t => r.idx = i ∧ chainR (i + 1) t

instance chainR_dec : ∀ (i : Int) (l : List Rec), Decidable (chainR i l)
  | _, [] => .isTrue trivial
  | i, r :: t => by
    unfold chainR
    exact @instDecidableAnd _ _ _ (chainR_dec (i + 1) t)

/-- May records stand in a block? -/
def FitsB (l : List Rec) : Prop := 1 ≤ l.length ∧ l.length ≤ 256 ∧ (∀ r ∈ l, FitsR r) ∧ chainR (l.headD zeroR).idx l

instance (l : List Rec) : Decidable (FitsB l) := by unfold FitsB; infer_instance

theorem encRs_app : ∀ (a b pre : List Rec), encRs pre (a ++ b) = encRs pre a ++ encRs (pre ++ a) b
  | [], b, pre => by simp [encRs]
  | r :: t, b, pre => by
    have e : pre ++ [r] ++ t = pre ++ r :: t := by simp
    rw [List.cons_append, encRs, encRs_app t b, e, encRs]
    exact (List.append_assoc _ _ _).symm

theorem encRs_snoc (l : List Rec) (k : Nat) (hk : k < l.length) : encRs [] (l.take (k + 1)) = encRs [] (l.take k) ++ encOne (l.take k) (l.getD k zeroR) := by
  have e : l.take (k + 1) = l.take k ++ [l.getD k zeroR] := by
    rw [List.take_add_one]
    simp [List.getD, hk]
  rw [e, encRs_app]
  simp [encRs]

/-- The record that bytes begin with, behind others, and how many bytes it has. -/
def oneL (pre : List Rec) (b : List UInt8) : Rec × Nat :=
  let i := (dec62 b).2
  let j := (dec64 (b.drop i)).2
  let k := (getOpL (b.drop (i + j))).2
  let m := (dec64 (b.drop (i + j + k))).2
  if i = 0 ∨ j = 0 ∨ k = 0 ∨ m = 0 then (zeroR, 0)
  else (⟨0, (dec62 b).1, IntKind.i64.wrap (lastSeq pre (dec62 b).1 + zag (dec64 (b.drop i)).1), (getOpL (b.drop (i + j))).1, zag (dec64 (b.drop (i + j + k))).1⟩, i + j + k + m)

theorem wrap_id {n : Int} (h : I64 n) : IntKind.i64.wrap n = n := by
  obtain ⟨h0, h1⟩ := h
  rw [IntKind.wrap_i64]
  omega

theorem diff_i64 {l : List Rec} (hl : ∀ r ∈ l, FitsR r) {r : Rec} (hr : FitsR r) : I64 (r.seq - lastSeq l r.proc) := by
  obtain ⟨h0, h1⟩ := lastSeq_bd r.proc hl
  obtain ⟨_, _, _, hs0, hs1, _⟩ := hr
  exact ⟨by omega, by omega⟩

theorem one_enc {pre : List Rec} (hl : ∀ r ∈ pre, FitsR r) {r : Rec} (hr : FitsR r) (t : List UInt8) : oneL pre (encOne pre r ++ t) = ({ r with idx := 0 }, (encOne pre r).length) := by
  have hd := diff_i64 hl hr
  have hresp := fitsR_resp hr
  obtain ⟨ho, _, _, hs0, hs1, hp0, hp1, _⟩ := id hr
  have E : encOne pre r ++ t = Lib.uvarint r.proc.toNat ++ (Lib.uvarint (Lib.zigzag (r.seq - lastSeq pre r.proc)) ++ (putOpL r.op ++ (Lib.uvarint (Lib.zigzag r.resp) ++ t))) := by
    unfold encOne
    simp only [List.append_assoc]
  have d1 := dec62_uvarint r.proc.toNat (Lib.uvarint (Lib.zigzag (r.seq - lastSeq pre r.proc)) ++ (putOpL r.op ++ (Lib.uvarint (Lib.zigzag r.resp) ++ t))) (by omega)
  rw [← E] at d1
  have e1 : (encOne pre r ++ t).drop (Lib.uvarint r.proc.toNat).length = Lib.uvarint (Lib.zigzag (r.seq - lastSeq pre r.proc)) ++ (putOpL r.op ++ (Lib.uvarint (Lib.zigzag r.resp) ++ t)) := by rw [E, List.drop_left]
  have d2 := dec64_uvarint (Lib.zigzag (r.seq - lastSeq pre r.proc)) (putOpL r.op ++ (Lib.uvarint (Lib.zigzag r.resp) ++ t)) (zig_lt hd)
  have e2 : (encOne pre r ++ t).drop ((Lib.uvarint r.proc.toNat).length + (Lib.uvarint (Lib.zigzag (r.seq - lastSeq pre r.proc))).length) = putOpL r.op ++ (Lib.uvarint (Lib.zigzag r.resp) ++ t) := by rw [← List.drop_drop, e1, List.drop_left]
  have d3 := getOp_put r.op ho (Lib.uvarint (Lib.zigzag r.resp) ++ t)
  have e3 : (encOne pre r ++ t).drop ((Lib.uvarint r.proc.toNat).length + (Lib.uvarint (Lib.zigzag (r.seq - lastSeq pre r.proc))).length + (putOpL r.op).length) = Lib.uvarint (Lib.zigzag r.resp) ++ t := by rw [← List.drop_drop, e2, List.drop_left]
  have d4 := dec64_uvarint (Lib.zigzag r.resp) t (zig_lt hresp)
  have n1 := uv_ne r.proc.toNat
  have n2 := uv_ne (Lib.zigzag (r.seq - lastSeq pre r.proc))
  have n4 := uv_ne (Lib.zigzag r.resp)
  have n3 : (putOpL r.op).length ≠ 0 := by
    unfold putOpL
    have := uv_ne r.op.code.toNat
    rw [List.length_append]
    omega
  unfold oneL
  simp only [d1, e1, d2, e2, d3, e3, d4]
  rw [if_neg (by rintro (h | h | h | h); exact n1 h; exact n2 h; exact n3 h; exact n4 h)]
  have hpn : ((r.proc.toNat : Nat) : Int) = r.proc := by omega
  rw [hpn, zag_zigzag _ hd.1 hd.2, zag_zigzag _ hresp.1 hresp.2]
  have hw : lastSeq pre r.proc + (r.seq - lastSeq pre r.proc) = r.seq := by omega
  rw [hw, wrap_id ⟨by omega, by omega⟩]
  congr 1
  unfold encOne
  simp only [List.length_append]
  omega

theorem uv_inj62 {a b : Nat} (ha : a < 4611686018427387904) (hb : b < 4611686018427387904) {x y : List UInt8} (h : Lib.uvarint a ++ x = Lib.uvarint b ++ y) : a = b ∧ x = y := by
  have d1 := dec62_uvarint a x ha
  have d2 := dec62_uvarint b y hb
  rw [h, d2] at d1
  have e := (Prod.mk.injEq ..).mp d1
  have hab : a = b := e.1.symm
  subst hab
  exact ⟨rfl, List.append_cancel_left h⟩

/-- Of two lists neither's bytes begin the other's. -/
theorem encRs_inj : ∀ (l l' pre : List Rec) (i : Int) (t : List UInt8), l.length = l'.length → chainR i l → chainR i l' → (∀ r ∈ pre, FitsR r) → (∀ r ∈ l, FitsR r) → (∀ r ∈ l', FitsR r) → encRs pre l' = encRs pre l ++ t → l' = l ∧ t = []
  | [], [], pre, i, t, _, _, _, _, _, _, h => ⟨rfl, by simpa [encRs] using h.symm⟩
  | r :: u, r' :: u', pre, i, t, hlen, hc, hc', hp, hf, hf', h => by
    have hr := hf r (by simp)
    have hr' := hf' r' (by simp)
    have h1 := one_enc hp hr (encRs (pre ++ [r]) u ++ t)
    have h2 := one_enc hp hr' (encRs (pre ++ [r']) u')
    have hh : encOne pre r' ++ encRs (pre ++ [r']) u' = encOne pre r ++ (encRs (pre ++ [r]) u ++ t) := by
      rw [encRs, encRs] at h
      rw [h, List.append_assoc]
    rw [hh, h1] at h2
    have hs := ((Prod.mk.injEq ..).mp h2).1
    have hri : r.idx = r'.idx := by rw [hc.1, hc'.1]
    have hrr : r' = r := by
      obtain ⟨i1, p1, s1, o1, e1⟩ := r
      obtain ⟨i2, p2, s2, o2, e2⟩ := r'
      simp only [Rec.mk.injEq, true_and] at hs hri ⊢
      obtain ⟨h1, h2, h3, h4⟩ := hs
      exact ⟨hri.symm, h1.symm, h2.symm, h3.symm, h4.symm⟩
    subst hrr
    have hrest : encRs (pre ++ [r']) u' = encRs (pre ++ [r']) u ++ t := List.append_cancel_left hh
    obtain ⟨q1, q2⟩ := encRs_inj u u' (pre ++ [r']) (i + 1) t (by simpa using hlen) hc.2 hc'.2 (fun s hs => by
      rcases List.mem_append.1 hs with h | h
      · exact hp s h
      · simp at h; rw [h]; exact hr) (fun s hs => hf s (by simp [hs])) (fun s hs => hf' s (by simp [hs])) hrest
    exact ⟨by rw [q1], q2⟩

theorem encB_inj {l l' : List Rec} (hl : FitsB l) (hl' : FitsB l') {t : List UInt8} (h : encB l' = encB l ++ t) : l' = l ∧ t = [] := by
  obtain ⟨n1, n2, hf, hc⟩ := hl
  obtain ⟨n1', n2', hf', hc'⟩ := hl'
  unfold encB at h
  simp only [List.append_assoc] at h
  have hm : ∀ l : List Rec, 1 ≤ l.length → l.headD zeroR ∈ l := fun l h => by
    match l, h with
    | r :: u, _ => simp
  obtain ⟨_, i0, i1, _⟩ := hf _ (hm l n1)
  obtain ⟨_, j0, j1, _⟩ := hf' _ (hm l' n1')
  obtain ⟨k1, k2⟩ := uv_inj62 (by omega) (by omega) h
  obtain ⟨k3, k4⟩ := uv_inj62 (by omega) (by omega) k2
  have hidx : (l.headD zeroR).idx = (l'.headD zeroR).idx := by omega
  rw [← hidx] at hc'
  exact encRs_inj l l' [] _ t (by omega) hc hc' (fun r hr => by simp at hr) hf hf' k4

theorem encB_apart {l l' : List Rec} (hl : FitsB l) (hl' : FitsB l') : encB l = encB l' ↔ l = l' := by
  constructor
  · intro h
    exact (encB_inj hl' hl (t := []) (by rw [List.append_nil]; exact h)).1
  · intro h
    rw [h]

theorem encB_cut {l l' : List Rec} (hl : FitsB l) (hl' : FitsB l') {n : Nat} (hn : n < (encB l).length) : encB l' ≠ (encB l).take n := by
  intro h
  have h2 : encB l = encB l' ++ (encB l).drop n := by rw [h, List.take_append_drop]
  obtain ⟨_, h3⟩ := encB_inj hl' hl h2
  have h4 := congrArg List.length h3
  rw [List.length_drop] at h4
  simp at h4
  omega

theorem encB_more {l l' : List Rec} (hl : FitsB l) (hl' : FitsB l') {t : List UInt8} (ht : t ≠ []) : encB l' ≠ encB l ++ t := fun h => ht (encB_inj hl hl' h).2

theorem encB_ne {l : List Rec} : encB l ≠ [] := by
  unfold encB
  intro h
  have := congrArg List.length h
  have h2 := uv_ne (l.headD zeroR).idx.toNat
  simp only [List.length_append, List.length_nil] at this
  omega

/-- What bytes are: the records of which they are the bytes, or none and ErrForm. -/
def DecB (b : List UInt8) (l : List Rec) (e : Int) : Prop := (e = 0 ∧ FitsB l ∧ encB l = b) ∨ (e = 3 ∧ l = [] ∧ ∀ l', FitsB l' → encB l' ≠ b)

theorem DecB.unique {b : List UInt8} {l l' : List Rec} {e e' : Int} (h : DecB b l e) (h' : DecB b l' e') : l = l' ∧ e = e' := by
  rcases h with ⟨h1, h2, h3⟩ | ⟨h1, h2, h3⟩
  · rcases h' with ⟨k1, k2, k3⟩ | ⟨k1, k2, k3⟩
    · exact ⟨(encB_apart h2 k2).1 (h3.trans k3.symm), by omega⟩
    · exact absurd h3 (k3 l h2)
  · rcases h' with ⟨k1, k2, k3⟩ | ⟨k1, k2, k3⟩
    · exact absurd k3 (h3 l' k2)
    · exact ⟨by rw [h2, k2], by omega⟩

end Go.Proofs.Ytgmdhlchdjlgnab
