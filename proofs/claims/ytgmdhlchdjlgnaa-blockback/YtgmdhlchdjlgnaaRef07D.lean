/- Contract of ferrymanref07: Decode. -/
import Derived.Test.YtgmdhlchdjlgnaaRef07C
namespace Go.Proofs.Ytgmdhlchdjlgnaa
open Go.RowKit

/-- What is decoded: the records, or none and ErrForm. -/
def DecodedB (w : World) (b : List UInt8) (e : Ending) (w' : World) : Prop :=
  ∃ (vl : Value) (l : List Rec) (n : Int), e = .returned (.tuple #[vl, .int .i64 n]) ∧ RdR w' vl l ∧ DecB b l n ∧ Below w.heap.size w w'

theorem DecodedB.none {w w' : World} {b : List UInt8} (h : ∀ l', FitsB l' → encB l' ≠ b) (hb : Below w.heap.size w w') : DecodedB w b (.returned (.tuple #[.slice none 0 0, .int .i64 3])) w' :=
  ⟨_, [], 3, rfl, RdR.nil _, .inr ⟨rfl, rfl, h⟩, hb⟩

theorem fitsB_head {l : List Rec} (h : FitsB l) : FitsR (l.headD zeroR) := by
  obtain ⟨h1, _, hf, _⟩ := h
  match l, h1 with
  | r :: u, _ => exact hf r (by simp)

/-- How a block's bytes begin. -/
theorem encB_begins {l : List Rec} (h : FitsB l) {b : List UInt8} (hb : encB l = b) :
    ((dec62 b).1 : Int) = (l.headD zeroR).idx ∧ (dec62 b).2 ≠ 0 ∧ (dec62 (b.drop (dec62 b).2)).1 = l.length ∧ (dec62 (b.drop (dec62 b).2)).2 ≠ 0 ∧ b.drop ((dec62 b).2 + (dec62 (b.drop (dec62 b).2)).2) = encRs [] l := by
  obtain ⟨_, i0, i1, _⟩ := fitsB_head h
  have h2 := h.2.1
  subst hb
  have d1 : dec62 (encB l) = ((l.headD zeroR).idx.toNat, (Lib.uvarint (l.headD zeroR).idx.toNat).length) := dec62_uvarint _ _ (by omega)
  have e1 : (encB l).drop (Lib.uvarint (l.headD zeroR).idx.toNat).length = Lib.uvarint l.length ++ encRs [] l := by
    unfold encB
    rw [List.drop_left]
  have d2 := dec62_uvarint l.length (encRs [] l) (by omega)
  rw [d1]
  simp only
  rw [e1, d2]
  refine ⟨by omega, uv_ne _, rfl, uv_ne _, ?_⟩
  rw [← List.drop_drop, e1, List.drop_left]

theorem one_ok {pre : List Rec} {b : List UInt8} (h : (oneL pre b).2 ≠ 0) : RecOk (oneL pre b).1 := by
  have h0 : dec62 b = dec62 b := rfl
  have hz : ∀ l : List UInt8, I64 (zag (dec64 l).1) := fun l => zag_i64 (by
    rcases dec64_cases l with e | e
    · rw [e]; decide
    · exact e.1)
  have hd : (dec62 b).1 < 4611686018427387904 := by
    rcases dec62_cases b with e | e
    · rw [e]; decide
    · exact e.1
  have hw : ∀ n : Int, I64 (IntKind.i64.wrap n) := fun n => by
    unfold I64
    rw [IntKind.wrap_i64]
    omega
  unfold oneL at h ⊢
  simp only at h ⊢
  by_cases hb : (dec62 b).2 = 0 ∨ (dec64 (b.drop (dec62 b).2)).2 = 0 ∨ (getOpL (b.drop ((dec62 b).2 + (dec64 (b.drop (dec62 b).2)).2))).2 = 0 ∨ (dec64 (b.drop ((dec62 b).2 + (dec64 (b.drop (dec62 b).2)).2 + (getOpL (b.drop ((dec62 b).2 + (dec64 (b.drop (dec62 b).2)).2))).2))).2 = 0
  · rw [if_pos hb] at h
    exact absurd rfl h
  · rw [if_neg hb]
    have hk : (getOpL (b.drop ((dec62 b).2 + (dec64 (b.drop (dec62 b).2)).2))).2 ≠ 0 := fun e => hb (.inr (.inr (.inl e)))
    have hf := (getOp_sound hk).1
    have hi := fits_i64 hf
    have hproc : I64 ((dec62 b).1 : Int) := ⟨by omega, by omega⟩
    have hcode : I64 (getOpL (b.drop ((dec62 b).2 + (dec64 (b.drop (dec62 b).2)).2))).1.code := by
      obtain ⟨hc0, hc1, _⟩ := hf
      generalize (getOpL (b.drop ((dec62 b).2 + (dec64 (b.drop (dec62 b).2)).2))).1.code = c at *
      exact ⟨by omega, by omega⟩
    have hzero : I64 0 := ⟨by decide, by decide⟩
    have hsq := hw (lastSeq pre (dec62 b).1 + zag (dec64 (b.drop (dec62 b).2)).1)
    have hrs := hz (b.drop ((dec62 b).2 + (dec64 (b.drop (dec62 b).2)).2 + (getOpL (b.drop ((dec62 b).2 + (dec64 (b.drop (dec62 b).2)).2))).2))
    have hia := hi.1
    have hib := hi.2
    clear h hb hk hf hi hz hw hd h0
    generalize IntKind.i64.wrap (lastSeq pre (dec62 b).1 + zag (dec64 (b.drop (dec62 b).2)).1) = sq at *
    generalize zag (dec64 (b.drop ((dec62 b).2 + (dec64 (b.drop (dec62 b).2)).2 + (getOpL (b.drop ((dec62 b).2 + (dec64 (b.drop (dec62 b).2)).2))).2))).1 = x at *
    generalize (getOpL (b.drop ((dec62 b).2 + (dec64 (b.drop (dec62 b).2)).2))).1 = op at *
    exact ⟨hzero, hproc, hsq, ⟨hcode, hia, hib⟩, hrs⟩

theorem one_le (pre : List Rec) (b : List UInt8) : (oneL pre b).2 ≤ b.length := by
  have b1 := dec62_le b
  have b2 := dec64_le (b.drop (dec62 b).2)
  have b3 := getOp_le (b.drop ((dec62 b).2 + (dec64 (b.drop (dec62 b).2)).2))
  have b4 := dec64_le (b.drop ((dec62 b).2 + (dec64 (b.drop (dec62 b).2)).2 + (getOpL (b.drop ((dec62 b).2 + (dec64 (b.drop (dec62 b).2)).2))).2))
  simp only [List.length_drop] at b2 b3 b4
  unfold oneL
  simp only
  split
  · exact Nat.zero_le _
  · show (dec62 b).2 + _ + _ + _ ≤ _
    omega

/-- Where the reading stands, if the bytes are those of a block. -/
def readsB (b : List UInt8) (l : List Rec) (A : Nat) : Prop := ∀ l', FitsB l' → encB l' = b → l = l'.take l.length ∧ b.drop A = encRs (l'.take l.length) (l'.drop l.length)

theorem readsB_next {b : List UInt8} {l : List Rec} {A : Nat} (h : readsB b l A) {l' : List Rec} (hf : FitsB l') (hb : encB l' = b) (hl : l.length < l'.length) :
    oneL l (b.drop A) = ({ l'.getD l.length zeroR with idx := 0 }, (encOne l (l'.getD l.length zeroR)).length) ∧ (oneL l (b.drop A)).2 ≠ 0 ∧ (l'.getD l.length zeroR).idx = (l'.headD zeroR).idx + l.length ∧ b.drop (A + (oneL l (b.drop A)).2) = encRs (l'.take (l.length + 1)) (l'.drop (l.length + 1)) := by
  obtain ⟨h1, h2⟩ := h l' hf hb
  have hfl : ∀ r ∈ l, FitsR r := fun r hr => by
    rw [h1] at hr
    exact hf.2.2.1 r (List.mem_of_mem_take hr)
  have hfr : FitsR (l'.getD l.length zeroR) := hf.2.2.1 _ (by simp [List.getD, hl])
  have ed : l'.drop l.length = l'.getD l.length zeroR :: l'.drop (l.length + 1) := by
    rw [List.drop_eq_getElem_cons hl]
    simp [List.getD, hl]
  rw [← h1, ed, encRs] at h2
  have ho := one_enc hfl hfr (encRs (l ++ [l'.getD l.length zeroR]) (l'.drop (l.length + 1)))
  rw [← h2] at ho
  have hne : (encOne l (l'.getD l.length zeroR)).length ≠ 0 := by
    unfold encOne
    have := uv_ne (l'.getD l.length zeroR).proc.toNat
    rw [List.length_append]
    omega
  refine ⟨ho, by rw [ho]; exact hne, chain_get l' _ _ hf.2.2.2 hl, ?_⟩
  rw [ho]
  simp only
  rw [← List.drop_drop, h2, List.drop_left, takeR_snoc hl, ← h1]

theorem readsB_step {b : List UInt8} {l : List Rec} {A : Nat} (h : readsB b l A) (hlen : ∀ l', FitsB l' → encB l' = b → l.length < l'.length) :
    readsB b (l ++ [{ (oneL l (b.drop A)).1 with idx := ((dec62 b).1 : Int) + l.length }]) (A + (oneL l (b.drop A)).2) := by
  intro l' hf hb
  have hl := hlen l' hf hb
  obtain ⟨h1, h2, h3, h4⟩ := readsB_next h hf hb hl
  have hidx := (encB_begins hf hb).1
  have e : (l ++ [{ (oneL l (b.drop A)).1 with idx := ((dec62 b).1 : Int) + l.length }]).length = l.length + 1 := by simp
  rw [e]
  refine ⟨?_, h4⟩
  rw [takeR_snoc hl, ← (h l' hf hb).1]
  congr 2
  rw [h1, hidx, ← h3]

set_option maxRecDepth 100000 in
set_option maxHeartbeats 4000000 in
theorem refDecodeB_any (vb : Value) (b : List UInt8) (w : World) (hr : Rd w vb b) (hlim : b.length ≤ 100000) :
    Calls Try.prog 15 #[vb] w fun e w' => DecodedB w b e w' := by
  have HR := hide hr
  obtain ⟨va, vc, rfl⟩ : ∃ va vc, vb = .slice va b.length vc := by
    obtain ⟨va, vc, rfl, _⟩ := hr
    exact ⟨va, vc, rfl⟩
  clear hr
  have HG1 : Hid (∀ W, Rd W (.slice va b.length vc) b → Calls Try.prog 29 #[.slice va b.length vc] W fun e w' => e = .returned (.tuple #[.int .i64 ((dec62 b).1 : Nat), .int .i64 ((dec62 b).2 : Nat)]) ∧ w' = W) := fun W h => refGet_any _ b W h
  have HG2 : Hid (∀ v1 W, Rd W v1 (b.drop (dec62 b).2) → Calls Try.prog 29 #[v1] W fun e w' => e = .returned (.tuple #[.int .i64 ((dec62 (b.drop (dec62 b).2)).1 : Nat), .int .i64 ((dec62 (b.drop (dec62 b).2)).2 : Nat)]) ∧ w' = W) := fun v1 W h => refGet_any v1 _ W h
  have HBG := hide (fun l' hf hb => encB_begins (l := l') (b := b) hf hb)
  have HSTEP := hide (fun l A h h2 => readsB_step (b := b) (l := l) (A := A) h h2)
  have HNEXT := hide (fun l A h l' h1 h2 h3 => readsB_next (b := b) (l := l) (A := A) h (l' := l') h1 h2 h3)
  have b1 := dec62_le b
  have b2 := dec62_le (b.drop (dec62 b).2)
  have c1 : (dec62 b).1 < 4611686018427387904 := by
    rcases dec62_cases b with h | h
    · rw [h]; decide
    · exact h.1
  simp only [List.length_drop] at b2
  generalize (dec62 (b.drop (dec62 b).2)).2 = k at *
  generalize (dec62 (b.drop (dec62 b).2)).1 = many at *
  generalize (dec62 b).2 = i at *
  generalize (dec62 b).1 = first at *
  have HC1 := hide (fun W (h : Rd W (.slice va b.length vc) b) => run_cut_l W _ b h .i64 i (by omega) (by omega))
  go_enter Try.func15, Try.ntmps15
  go_wp2_with fail
  refine (HG1.out _ HR.out).mono ?_
  rintro e W1 ⟨rfl, hw1⟩
  rw [hw1]
  clear hw1 W1
  go_wp2_with (refine wpList_cut _ rfl _ _ _ _ rfl _ (HC1.out _ HR.out) ?_)
  intro v1 hr1
  have HR1 := hide hr1
  clear hr1
  go_wp2_with fail
  refine (HG2.out _ _ (by have h := HR1.out; simpa using h)).mono ?_
  rintro e W1 ⟨rfl, hw1⟩
  rw [hw1]
  clear hw1 W1 HR1 HC1 HG1 HG2
  by_cases hbad : i = 0 ∨ k = 0 ∨ many < 1 ∨ 256 < many
  · have HN : Hid (∀ l', FitsB l' → encB l' ≠ b) := hide (fun l' hf hb => by
      obtain ⟨_, g1, g2, g3, _⟩ := HBG.out l' hf hb
      have := hf.1
      have := hf.2.1
      omega)
    by_cases hi : i = 0
    · subst hi
      clear hbad
      go_wp2
      go_ret2
      exact DecodedB.none HN.out (Below.refl _ _)
    have ei : ((i : Int) == 0) = false := beq_eq_false_iff_ne.2 (by omega)
    by_cases hk : k = 0
    · subst hk
      clear hbad
      go_wp2
      go_ret2
      exact DecodedB.none HN.out (Below.refl _ _)
    have ek : ((k : Int) == 0) = false := beq_eq_false_iff_ne.2 (by omega)
    by_cases h1 : many < 1
    · have h1' : (many : Int) < 1 := by omega
      clear hbad h1
      go_wp2
      go_ret2
      exact DecodedB.none HN.out (Below.refl _ _)
    have h1' : ¬ (many : Int) < 1 := by omega
    have h2' : 256 < (many : Int) := by omega
    clear hbad h1
    go_wp2
    go_ret2
    exact DecodedB.none HN.out (Below.refl _ _)
  have ei : ((i : Int) == 0) = false := beq_eq_false_iff_ne.2 (by omega)
  have ek : ((k : Int) == 0) = false := beq_eq_false_iff_ne.2 (by omega)
  have h1' : ¬ (many : Int) < 1 := by omega
  have h2' : ¬ 256 < (many : Int) := by omega
  have hT : i + k ≤ b.length := by omega
  have HLEN : Hid (∀ l', FitsB l' → encB l' = b → many = l'.length) := hide (fun l' hf hb => (HBG.out l' hf hb).2.2.1)
  have HRD0 : Hid (readsB b [] (i + k)) := hide (fun l' hf hb => ⟨by simp, (HBG.out l' hf hb).2.2.2.2⟩)
  have hsum : (i : Int) + k ≤ 9223372036854775807 := by omega
  clear hbad HBG
  go_wp2
  go_loopw [8, 9, 10] (fun vl va' vn wr => ∃ (q A : Nat) (l : List Rec), va' = .int .i64 (A : Int) ∧ vn = .int .i64 (q : Int) ∧ q ≤ many ∧ A ≤ b.length ∧ l.length = q ∧ Hid (OwnR wr w.heap.size vl l) ∧ Hid (∀ r ∈ l, RecOk r) ∧ Hid (readsB b l A) ∧ Hid (Below w.heap.size w wr)) (fun _ _ vn _ => many - (intOf vn).toNat)
  case atStart => exact ⟨0, i + k, [], by go_num, rfl, Nat.zero_le _, hT, rfl, OwnR.nil _ _, hide (fun r h => by simp at h), HRD0, Below.refl _ _⟩
  case round =>
    clear HRD0
    obtain ⟨q, A, l, rfl, rfl, hq, hA, hlq, hO, hOK, hRD, hB⟩ := hrel
    subst hlq
    by_cases hlt : l.length < many
    case neg =>
      have hme : many = l.length := by omega
      have hqi : ¬ (l.length : Int) < (many : Int) := by omega
      have HALL : Hid (∀ l', FitsB l' → encB l' = b → l = l') := hide (fun l' hf hb => by
        have h1 := (hRD.out l' hf hb).1
        have h2 := HLEN.out l' hf hb
        rw [← hme, h2, List.take_length] at h1
        exact h1)
      have HRL := hide (hO.out.rd hOK.out)
      have HEN := hide (refEncodeB_any _ l wr HRL.out)
      unfold EncodedB at HEN
      obtain ⟨al, cl, rfl⟩ := hO.out.shape
      clear hme hRD
      by_cases hf : FitsB l
      case neg =>
        simp only [if_neg hf] at HEN
        have HN : Hid (∀ l', FitsB l' → encB l' ≠ b) := hide (fun l' h1 h2 => hf (by rw [HALL.out l' h1 h2]; exact h1))
        clear hf
        go_wp2_with fail
        refine HEN.out.mono ?_
        rintro e W2 ⟨v2, rfl, ho2, hb2⟩
        have HB2 := hide (hB.out.trans (hb2.mono hB.out.size))
        clear ho2 hb2
        go_wp2
        go_ret2
        exact DecodedB.none HN.out HB2.out
      simp only [if_pos hf] at HEN
      by_cases heq : encB l = b
      · have HFI : Hid (FitsB l ∧ encB l = b) := hide ⟨hf, heq⟩
        rw [heq] at HEN
        clear hf heq
        go_wp2_with fail
        refine HEN.out.mono ?_
        rintro e W2 ⟨v2, rfl, ho2, hb2⟩
        have HB2 := hide (hB.out.trans (hb2.mono hB.out.size))
        have hs1 := ho2.rd.str
        have hs2 := (HR.out.below HB2.out (Nat.le_refl _)).str
        have HR2 := hide (HRL.out.below hb2 (Nat.le_refl _))
        clear ho2 hb2
        go_wp2
        go_ret2
        exact ⟨_, l, 0, rfl, HR2.out, .inl ⟨rfl, HFI.out.1, HFI.out.2⟩, HB2.out⟩
      · have HN : Hid (∀ l', FitsB l' → encB l' ≠ b) := hide (fun l' h1 h2 => heq (by rw [HALL.out l' h1 h2]; exact h2))
        have hse : ((bs (encB l)).toList == (bs b).toList) = false := by
          rw [bs_list, bs_list, beq_eq_false_iff_ne]
          exact heq
        clear hf heq
        generalize encB l = E at *
        go_wp2_with fail
        refine HEN.out.mono ?_
        rintro e W2 ⟨v2, rfl, ho2, hb2⟩
        have HB2 := hide (hB.out.trans (hb2.mono hB.out.size))
        have hs1 := ho2.rd.str
        have hs2 := (HR.out.below HB2.out (Nat.le_refl _)).str
        clear ho2 hb2
        go_wp2
        go_ret2
        exact DecodedB.none HN.out HB2.out
    have hqi : (l.length : Int) < (many : Int) := by omega
    have HC := hide (run_cut_l wr _ b (HR.out.below hB.out (Nat.le_refl _)) .i64 (A : Int) (by omega) (by omega))
    rw [Int.toNat_natCast] at HC
    have HLT : Hid (∀ l', FitsB l' → encB l' = b → l.length < l'.length) := hide (fun l' hf hb => by have := HLEN.out l' hf hb; omega)
    have HNX := hide (HSTEP.out l A hRD.out HLT.out)
    have HNO : Hid ((oneL l (b.drop A)).2 = 0 → ∀ l', FitsB l' → encB l' ≠ b) := hide (fun h l' hf hb => (HNEXT.out l A hRD.out l' hf hb (HLT.out l' hf hb)).2.1 h)
    have HOO := hide (fun h => one_ok (pre := l) (b := b.drop A) h)
    have hol := one_le l (b.drop A)
    rw [List.length_drop] at hol
    have HRL := hide (hO.out.rd hOK.out)
    have HONE := hide (fun v2 (h : Rd wr v2 (b.drop A)) => refOne_any _ l v2 (b.drop A) wr HRL.out h)
    unfold OneR recV at HONE
    obtain ⟨X, hX⟩ : ∃ X, X = (oneL l (b.drop A)).1 := ⟨_, rfl⟩
    obtain ⟨m, hm⟩ : ∃ m, m = (oneL l (b.drop A)).2 := ⟨_, rfl⟩
    rw [← hX, ← hm] at HONE HNX
    rw [← hm] at HNO HOO hol
    rw [← hX] at HOO
    clear hX hm hRD HLT
    obtain ⟨xi, xp, xs, ⟨xc, xa, xb⟩, xr⟩ := X
    obtain ⟨al, cl, rfl⟩ := hO.out.shape
    go_wp2_with (refine wpList_cut _ rfl _ _ _ _ rfl _ HC.out ?_)
    intro v2 hr2
    have HR2 := hide hr2
    clear hr2 HC
    go_wp2_with fail
    refine (HONE.out _ HR2.out).mono ?_
    rintro e W2 ⟨rfl, hb2⟩
    have HB2 := hide (hB.out.trans (hb2.mono hB.out.size))
    have HO2 := hide (hO.out.below hb2 (Nat.le_refl _))
    clear hb2 HONE HR2 HRL
    by_cases hm0 : m = 0
    · have HN := hide (HNO.out hm0)
      subst hm0
      clear HNO HNX HOO
      go_wp2
      go_ret2
      exact DecodedB.none HN.out (HB2.out.alloc HB2.out.size _)
    have em : ((m : Int) == 0) = false := beq_eq_false_iff_ne.2 (by omega)
    have HXO := hide (HOO.out hm0)
    have hfq : (first : Int) + (l.length : Int) ≤ 9223372036854775807 := by omega
    clear HNO HOO hm0
    obtain ⟨NB, hNB⟩ : ∃ N, N = W2.heap.size := ⟨_, rfl⟩
    obtain ⟨WB, hWB⟩ : ∃ W, W = W2.alloc (.cells #[.int .i64 ((first : Int) + (l.length : Int)), .int .i64 xp, .int .i64 xs, .int .i64 xc, .int .i64 xa, .int .i64 xb, .int .i64 xr] 37) := ⟨_, rfl⟩
    have hbB : Below W2.heap.size W2 WB := by rw [hWB]; exact (Below.refl _ _).alloc (Nat.le_refl _) _
    have HBX : Hid (Br WB NB #[.int .i64 ((first : Int) + (l.length : Int)), .int .i64 xp, .int .i64 xs, .int .i64 xc, .int .i64 xa, .int .i64 xb, .int .i64 xr]) := hide (by rw [hWB, hNB]; exact heap_alloc_new W2 _)
    have HBB := hide (HB2.out.trans (hbB.mono HB2.out.size))
    have HOB := hide (HO2.out.below hbB (Nat.le_refl _))
    have HSB := hide HBB.out.size
    go_upto_region 14 with fail
    rw [← hWB, ← hNB]
    clear hWB hNB hbB HB2 HO2 hB
    obtain ⟨t0, -⟩ := HBX.out.cell 0
    obtain ⟨t1, -⟩ := HBX.out.cell 1
    obtain ⟨t2, -⟩ := HBX.out.cell 2
    obtain ⟨t3, -⟩ := HBX.out.cell 3
    obtain ⟨t4, -⟩ := HBX.out.cell 4
    obtain ⟨t5, -⟩ := HBX.out.cell 5
    obtain ⟨t6, -⟩ := HBX.out.cell 6
    have HLL : Hid (l.length ≤ 1000000) := hide (by omega)
    go_wp2_with (at_builtin; refine wpList_append_rec WB rfl _ _ rfl w.heap.size (.slice al l.length cl) l rfl HOB.out ⟨(first : Int) + (l.length : Int), xp, xs, ⟨xc, xa, xb⟩, xr⟩ rfl HLL.out HSB.out ?_)
    intro v6 W6 ho6 hb6
    have HO6 := hide ho6
    have HB6 := hide (HBB.out.trans hb6)
    have HOK6 : Hid (∀ r ∈ l ++ [(⟨(first : Int) + (l.length : Int), xp, xs, ⟨xc, xa, xb⟩, xr⟩ : Rec)], RecOk r) := hide (fun r hr => by
      rcases List.mem_append.1 hr with h | h
      · exact hOK.out r h
      · simp only [List.mem_singleton] at h
        rw [h]
        obtain ⟨_, k1, k2, k3, k4⟩ := HXO.out
        exact ⟨⟨by show -9223372036854775808 ≤ (first : Int) + (l.length : Int); omega, hfq⟩, k1, k2, k3, k4⟩)
    have HNX6 : Hid (readsB b (l ++ [(⟨(first : Int) + (l.length : Int), xp, xs, ⟨xc, xa, xb⟩, xr⟩ : Rec)]) (A + m)) := HNX
    have hAm : (A : Int) + (m : Int) ≤ 9223372036854775807 := by omega
    have HLE : Hid ((l ++ [(⟨(first : Int) + (l.length : Int), xp, xs, ⟨xc, xa, xb⟩, xr⟩ : Rec)]).length = l.length + 1) := hide (by simp)
    clear ho6 hb6 t0 t1 t2 t3 t4 t5 t6 HBX HNX HXO
    generalize l ++ [(⟨(first : Int) + (l.length : Int), xp, xs, ⟨xc, xa, xb⟩, xr⟩ : Rec)] = L at *
    go_wp2
    go_roundw
    case rel => exact ⟨l.length + 1, A + m, L, by go_num, by go_num, by omega, by omega, HLE.out, HO6, HOK6, HNX6, HB6⟩
    case measure => simp [intOf]; omega

end Go.Proofs.Ytgmdhlchdjlgnaa
