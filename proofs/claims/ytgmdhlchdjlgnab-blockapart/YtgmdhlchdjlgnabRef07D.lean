/- Contract of ferrymanref07: Decode. -/
import Derived.Test.YtgmdhlchdjlgnabRef07C
namespace Go.Proofs.Ytgmdhlchdjlgnab
open Go.RowKit

/-- What is decoded: the records, or none and ErrForm. -/
def DecodedB (w : World) (b : List UInt8) (e : Ending) (w' : World) : Prop :=
  ∃ (vl : Value) (l : List Rec) (n : Int), e = .returned (.tuple #[vl, .int .i64 n]) ∧ RdR w' vl l ∧ DecB b l n ∧ Below w.heap.size w w'

theorem DecodedB.none {w w' : World} {b : List UInt8} (h : ∀ l', FitsB l' → encB l' ≠ b) (hb : Below w.heap.size w w') : DecodedB w b (.returned (.tuple #[.slice none 0 0, .int .i64 3])) w' :=
  ⟨_, [], 3, rfl, RdR.nil _, .inr ⟨rfl, rfl, h⟩, hb⟩

theorem fitsB_head {l : List Rec} (h : FitsB l) : FitsR (l.headD zeroR) := by
  obtain ⟨h1, _, hf, _⟩ := h
  match l, h1 with
  | r :: u, _ => exact hf r (by simp)

/-- How a block's bytes begin. -/
theorem encB_begins {l : List Rec} (h : FitsB l) {b : List UInt8} (hb : encB l = b) :
    ((dec62 b).1 : Int) = (l.headD zeroR).idx ∧ (dec62 b).2 ≠ 0 ∧ (dec62 (b.drop (dec62 b).2)).1 = l.length ∧ (dec62 (b.drop (dec62 b).2)).2 ≠ 0 ∧ b.drop ((dec62 b).2 + (dec62 (b.drop (dec62 b).2)).2) = encRs [] l := by
  obtain ⟨_, i0, i1, _⟩ := fitsB_head h
  have h2 := h.2.1
  subst hb
  have d1 : dec62 (encB l) = ((l.headD zeroR).idx.toNat, (Lib.uvarint (l.headD zeroR).idx.toNat).length) := dec62_uvarint _ _ (by omega)
  have e1 : (encB l).drop (Lib.uvarint (l.headD zeroR).idx.toNat).length = Lib.uvarint l.length ++ encRs [] l := by
    unfold encB
    rw [List.drop_left]
  have d2 := dec62_uvarint l.length (encRs [] l) (by omega)
  rw [d1]
  simp only
  rw [e1, d2]
  refine ⟨by omega, uv_ne _, rfl, uv_ne _, ?_⟩
  rw [← List.drop_drop, e1, List.drop_left]

theorem one_ok {pre : List Rec} {b : List UInt8} (h : (oneL pre b).2 ≠ 0) : RecOk (oneL pre b).1 := by
  have h0 : dec62 b = dec62 b := rfl
  have hz : ∀ l : List UInt8, I64 (zag (dec64 l).1) := fun l => zag_i64 (by
    rcases dec64_cases l with e | e
    · rw [e]; decide
    · exact e.1)
  have hd : (dec62 b).1 < 4611686018427387904 := by
    rcases dec62_cases b with e | e
    · rw [e]; decide
    · exact e.1
  have hw : ∀ n : Int, I64 (IntKind.i64.wrap n) := fun n => by
    unfold I64
    rw [IntKind.wrap_i64]
    omega
  unfold oneL at h ⊢
  simp only at h ⊢
  by_cases hb : (dec62 b).2 = 0 ∨ (dec64 (b.drop (dec62 b).2)).2 = 0 ∨ (getOpL (b.drop ((dec62 b).2 + (dec64 (b.drop (dec62 b).2)).2))).2 = 0 ∨ (dec64 (b.drop ((dec62 b).2 + (dec64 (b.drop (dec62 b).2)).2 + (getOpL (b.drop ((dec62 b).2 + (dec64 (b.drop (dec62 b).2)).2))).2))).2 = 0
  · rw [if_pos hb] at h
    exact absurd rfl h
  · rw [if_neg hb]
    have hk : (getOpL (b.drop ((dec62 b).2 + (dec64 (b.drop (dec62 b).2)).2))).2 ≠ 0 := fun e => hb (.inr (.inr (.inl e)))
    have hf := (getOp_sound hk).1
    have hi := fits_i64 hf
    have hproc : I64 ((dec62 b).1 : Int) := ⟨by omega, by omega⟩
    have hcode : I64 (getOpL (b.drop ((dec62 b).2 + (dec64 (b.drop (dec62 b).2)).2))).1.code := by
      obtain ⟨hc0, hc1, _⟩ := hf
      generalize (getOpL (b.drop ((dec62 b).2 + (dec64 (b.drop (dec62 b).2)).2))).1.code = c at *
      exact ⟨by omega, by omega⟩
    have hzero : I64 0 := ⟨by decide, by decide⟩
    have hsq := hw (lastSeq pre (dec62 b).1 + zag (dec64 (b.drop (dec62 b).2)).1)
    have hrs := hz (b.drop ((dec62 b).2 + (dec64 (b.drop (dec62 b).2)).2 + (getOpL (b.drop ((dec62 b).2 + (dec64 (b.drop (dec62 b).2)).2))).2))
    have hia := hi.1
    have hib := hi.2
    clear h hb hk hf hi hz hw hd h0
    generalize IntKind.i64.wrap (lastSeq pre (dec62 b).1 + zag (dec64 (b.drop (dec62 b).2)).1) = sq at *
    generalize zag (dec64 (b.drop ((dec62 b).2 + (dec64 (b.drop (dec62 b).2)).2 + (getOpL (b.drop ((dec62 b).2 + (dec64 (b.drop (dec62 b).2)).2))).2))).1 = x at *
    generalize (getOpL (b.drop ((dec62 b).2 + (dec64 (b.drop (dec62 b).2)).2))).1 = op at *
    exact ⟨hzero, hproc, hsq, ⟨hcode, hia, hib⟩, hrs⟩

theorem one_le (pre : List Rec) (b : List UInt8) : (oneL pre b).2 ≤ b.length := by
  have b1 := dec62_le b
  have b2 := dec64_le (b.drop (dec62 b).2)
  have b3 := getOp_le (b.drop ((dec62 b).2 + (dec64 (b.drop (dec62 b).2)).2))
  have b4 := dec64_le (b.drop ((dec62 b).2 + (dec64 (b.drop (dec62 b).2)).2 + (getOpL (b.drop ((dec62 b).2 + (dec64 (b.drop (dec62 b).2)).2))).2))
  simp only [List.length_drop] at b2 b3 b4
  unfold oneL
  simp only
  split
  · exact Nat.zero_le _
  · show (dec62 b).2 + _ + _ + _ ≤ _
    omega

/-- Where the reading stands, if the bytes are those of a block. -/
def readsB (b : List UInt8) (l : List Rec) (A : Nat) : Prop := ∀ l', FitsB l' → encB l' = b → l = l'.take l.length ∧ b.drop A = encRs (l'.take l.length) (l'.drop l.length)

theorem readsB_next {b : List UInt8} {l : List Rec} {A : Nat} (h : readsB b l A) {l' : List Rec} (hf : FitsB l') (hb : encB l' = b) (hl : l.length < l'.length) :
    oneL l (b.drop A) = ({ l'.getD l.length zeroR with idx := 0 }, (encOne l (l'.getD l.length zeroR)).length) ∧ (oneL l (b.drop A)).2 ≠ 0 ∧ (l'.getD l.length zeroR).idx = (l'.headD zeroR).idx + l.length ∧ b.drop (A + (oneL l (b.drop A)).2) = encRs (l'.take (l.length + 1)) (l'.drop (l.length + 1)) := by
  obtain ⟨h1, h2⟩ := h l' hf hb
  have hfl : ∀ r ∈ l, FitsR r := fun r hr => by
    rw [h1] at hr
    exact hf.2.2.1 r (List.mem_of_mem_take hr)
  have hfr : FitsR (l'.getD l.length zeroR) := hf.2.2.1 _ (by simp [List.getD, hl])
  have ed : l'.drop l.length = l'.getD l.length zeroR :: l'.drop (l.length + 1) := by
    rw [List.drop_eq_getElem_cons hl]
    simp [List.getD, hl]
  rw [← h1, ed, encRs] at h2
  have ho := one_enc hfl hfr (encRs (l ++ [l'.getD l.length zeroR]) (l'.drop (l.length + 1)))
  rw [← h2] at ho
  have hne : (encOne l (l'.getD l.length zeroR)).length ≠ 0 := by
    unfold encOne
    have := uv_ne (l'.getD l.length zeroR).proc.toNat
    rw [List.length_append]
    omega
  refine ⟨ho, by rw [ho]; exact hne, chain_get l' _ _ hf.2.2.2 hl, ?_⟩
  rw [ho]
  simp only
  rw [← List.drop_drop, h2, List.drop_left, takeR_snoc hl, ← h1]

theorem readsB_step {b : List UInt8} {l : List Rec} {A : Nat} (h : readsB b l A) (hlen : ∀ l', FitsB l' → encB l' = b → l.length < l'.length) :
    readsB b (l ++ [{ (oneL l (b.drop A)).1 with idx := ((dec62 b).1 : Int) + l.length }]) (A + (oneL l (b.drop A)).2) := by
  intro l' hf hb
  have hl := hlen l' hf hb
  obtain ⟨h1, h2, h3, h4⟩ := readsB_next h hf hb hl
  have hidx := (encB_begins hf hb).1
  have e : (l ++ [{ (oneL l (b.drop A)).1 with idx := ((dec62 b).1 : Int) + l.length }]).length = l.length + 1 := by simp
  rw [e]
  refine ⟨?_, h4⟩
  rw [takeR_snoc hl, ← (h l' hf hb).1]
  congr 2
  rw [h1, hidx, ← h3]

end Go.Proofs.Ytgmdhlchdjlgnab
