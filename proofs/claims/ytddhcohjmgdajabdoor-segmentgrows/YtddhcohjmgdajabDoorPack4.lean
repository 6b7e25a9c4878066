import Derived.Test.YtddhcohjmgdajabDoorPack3
import Derived.Deep.RegionHeld
import Derived.Test.YtddhcohjmgdajabDoorPack2
import Derived.Test.YtddhcohjmgdajabDoorPack1
import Derived.Lib.LazyBuf
import Derived.Shelf.Slices.Delete
import Derived.Lib.RowBridge
import Derived.ChangeSlices
import Derived.Deep.Slices
import Derived.WideShapes
/- Segments: encoded and decoded, once, cut, grown. -/
namespace Go.Proofs.YtddhcohjmgdajabDoor

theorem encOne_len8 {pre : List Rec} (hp : ∀ r ∈ pre, FitsR r) {r : Rec} (hr : FitsR r) : (encOne pre r).length ≤ 60 := by
  have hd := diff_i64 hp hr
  have hresp := fitsR_resp hr
  obtain ⟨g1, _, _, _, _, hp0, hp1, _⟩ := hr
  have q1 : (Lib.uvarint r.proc.toNat).length ≤ 10 := Lib.uvarint_length64 (by omega)
  have q2 : (Lib.uvarint (Lib.zigzag (r.seq - lastSeq pre r.proc))).length ≤ 10 := Lib.uvarint_length64 (zig_lt hd)
  have q4 : (Lib.uvarint r.op.code.toNat).length ≤ 10 := Lib.uvarint_length64 (by have := g1.1; have := g1.2.1; omega)
  have q5 : (Lib.uvarint (Lib.zigzag r.op.a)).length ≤ 10 := Lib.uvarint_length64 (zig_lt (fits_i64 g1).1)
  have q6 : (Lib.uvarint (Lib.zigzag r.op.b)).length ≤ 10 := Lib.uvarint_length64 (zig_lt (fits_i64 g1).2)
  have q7 : (Lib.uvarint (Lib.zigzag r.resp)).length ≤ 10 := Lib.uvarint_length64 (zig_lt hresp)
  unfold encOne putOpL
  simp only [List.length_append]
  omega

theorem encRs_len8 : ∀ (l pre : List Rec), (∀ r ∈ pre, FitsR r) → (∀ r ∈ l, FitsR r) → (encRs pre l).length ≤ 60 * l.length
  | [], _, _, _ => by simp [encRs]
  | r :: t, pre, hp, hl => by
    have hr := hl r (by simp)
    have h1 := encOne_len8 hp hr
    have h2 := encRs_len8 t (pre ++ [r]) (fun s hs => by
      rcases List.mem_append.1 hs with h | h
      · exact hp s h
      · rw [List.mem_singleton.1 h]; exact hr) (fun s hs => hl s (by simp [hs]))
    rw [encRs, List.length_append, List.length_cons]
    omega

theorem flatE_len {v : Nat} (h1 : 1 ≤ v) (h3 : v ≤ 3) : ∀ (l : List Rec), (∀ r ∈ l, FitsR r) → (l.flatMap (elderE v)).length ≤ 310 * l.length
  | [], _ => by simp
  | r :: l, hl => by
    have h := elderE_len h1 h3 (hl r (by simp))
    have ih := flatE_len h1 h3 l (fun s hs => hl s (by simp [hs]))
    rw [List.flatMap_cons, List.length_append, List.length_cons]
    omega

theorem dataV_len {v : Nat} (h1 : 1 ≤ v) (h3 : v ≤ 3) {l : List Rec} (hl : l.length ≤ 16) (hf : ∀ r ∈ l, FitsR r) : (dataV v l).length ≤ 6000 := by
  unfold dataV
  split
  · have h := encRs_len8 l [] (by simp) hf
    have hh : (l.headD zeroR).idx.toNat < 4611686018427387904 := by
      cases l with
      | nil => decide
      | cons r t =>
        obtain ⟨_, i0, i1, _⟩ := hf r (by simp)
        rw [List.headD_cons]
        omega
    have q1 : (Lib.uvarint (l.headD zeroR).idx.toNat).length ≤ 10 := Lib.uvarint_length64 (by omega)
    have q2 : (Lib.uvarint l.length).length ≤ 10 := Lib.uvarint_length64 (by omega)
    unfold encB
    simp only [List.length_append]
    omega
  · have h := flatE_len h1 h3 l hf
    omega

theorem chunks_mem : ∀ (n : Nat) (l c : List Rec), l.length ≤ n → c ∈ chunks l → c.length ≤ 16 ∧ 1 ≤ c.length ∧ ∀ r ∈ c, r ∈ l
  | 0, l, c, h, hc => by
    have e : l = [] := List.eq_nil_of_length_eq_zero (by omega)
    rw [e, chunks_nil] at hc
    simp at hc
  | n + 1, l, c, h, hc => by
    by_cases e : l = []
    · rw [e, chunks_nil] at hc
      simp at hc
    · have h0 : l.length ≠ 0 := by simpa using e
      rw [chunks_cons e] at hc
      rcases List.mem_cons.1 hc with hc | hc
      · rw [hc]
        refine ⟨by rw [List.length_take]; omega, by rw [List.length_take]; omega, fun r hr => List.mem_of_mem_take hr⟩
      · obtain ⟨h1, h2, h3⟩ := chunks_mem n (l.drop 16) c (by rw [List.length_drop]; omega) hc
        exact ⟨h1, h2, fun r hr => List.mem_of_mem_drop (h3 r hr)⟩

theorem blocks_len {v : Nat} (h1 : 1 ≤ v) (h3 : v ≤ 3) {l : List Rec} (hf : ∀ r ∈ l, FitsR r) : ∀ d ∈ blocksS v l, d.length ≤ 6000 := by
  intro d hd
  unfold blocksS at hd
  obtain ⟨c, hc, rfl⟩ := List.mem_map.1 hd
  obtain ⟨g1, g2, g3⟩ := chunks_mem _ l c (Nat.le_refl _) hc
  exact dataV_len h1 h3 g1 (fun r hr => hf r (g3 r hr))

theorem offs_len : ∀ (B : List (List UInt8)) (n : Nat), n < 4611686018427387904 → (∀ d ∈ B, d.length ≤ 1048576) → (offsS n B).length ≤ 10 * B.length
  | [], _, _, _ => by simp [offsS]
  | x :: xs, n, hn, hB => by
    have q : (Lib.uvarint n).length ≤ 10 := Lib.uvarint_length64 (by omega)
    have hx := hB x (by simp)
    have := frameOf_len6 hx
    have ih := offs_len xs (frameOf x).length (by omega) (fun d hd => hB d (by simp [hd]))
    rw [offsS, List.length_append, List.length_cons]
    omega

theorem blocksS_len {v : Nat} (l : List Rec) : (blocksS v l).length = (l.length + 15) / 16 := by
  unfold blocksS
  rw [List.length_map, chunks_length _ l (Nat.le_refl _)]

theorem parts_len {v : Nat} (h1 : 1 ≤ v) (h3 : v ≤ 3) {s : Seg} (hm : MayG s) : ∀ d ∈ partsS v s, d.length ≤ 1048576 := by
  obtain ⟨⟨k0, k1, f0, f1⟩, hr⟩ := hm
  have hb := blocks_len h1 h3 hr.2.1
  have hh := headS_len (v := v) (k := s.kind.toNat) (f := s.first.toNat) h3 (by omega) (by omega)
  intro d hd
  unfold partsS at hd
  rcases List.mem_cons.1 hd with hd | hd
  · rw [hd]; omega
  · rcases List.mem_append.1 hd with hd | hd
    · have := hb d hd
      omega
    · rw [List.mem_singleton.1 hd]
      unfold footS
      have hbl := blocksS_len (v := v) s.recs
      have h4 := hr.1
      have q : (Lib.uvarint (blocksS v s.recs).length).length ≤ 10 := Lib.uvarint_length64 (by omega)
      have := frameOf_len6 (d := headS v s.kind.toNat s.first.toNat) (by omega)
      have := offs_len (blocksS v s.recs) (frameOf (headS v s.kind.toNat s.first.toNat)).length (by omega) (fun d hd => by have := hb d hd; omega)
      rw [List.length_append]
      omega

/-- Encoded and decoded: the upgrade. -/
theorem decS8_enc {v : Nat} (h1 : 1 ≤ v) (h3 : v ≤ 3) {s : Seg} (hm : MayG s) : decS8 (encS8 v s) = (upgG v s, 0) := by
  have hl := parts_len h1 h3 hm
  obtain ⟨⟨k0, k1, f0, f1⟩, hr⟩ := hm
  have hw := wholeF_frames (partsS v s) hl
  have hh := readH_head (v := v) (k := s.kind.toNat) (f := s.first.toNat) h1 h3 (by omega) (by omega)
  have hb := walkB_blocks h1 h3 (s.first.toNat : Nat) s.recs.length s.recs [] (Nat.le_refl _) (by
    have e : ((s.first.toNat : Nat) : Int) + (([] : List Rec).length : Int) = s.first := by rw [List.length_nil]; omega
    rw [e]
    exact hr) (by rw [List.length_nil]; have := hr.1; omega)
  rw [List.nil_append] at hb
  unfold decS8 encS8
  rw [hw]
  simp only [ne_eq, not_true_eq_false, if_false]
  have e1 : (partsS v s).headD [] = headS v s.kind.toNat s.first.toNat := rfl
  have e2 : (partsS v s).tail.dropLast = blocksS v s.recs := by
    unfold partsS
    rw [List.tail_cons, List.dropLast_concat]
  have e3 : (partsS v s).getLastD [] = footS (headS v s.kind.toNat s.first.toNat) (blocksS v s.recs) := by
    unfold partsS
    rw [← List.cons_append, List.getLastD_eq_getLast?, List.getLast?_concat]
    rfl
  have e4 : ¬ (partsS v s).length < 2 := by
    unfold partsS
    simp
  unfold decL8
  rw [if_neg e4, e1, hh]
  simp only
  rw [e2, e3, hb]
  rw [if_neg (fun h => h rfl), if_pos rfl]
  unfold upgG
  rw [Int.toNat_of_nonneg k0, Int.toNat_of_nonneg f0]

theorem readH_sound {d : List UInt8} {v k f : Nat} (h : readH d = .ok (v, k, f)) : d = headS v k f ∧ 1 ≤ v ∧ v ≤ 3 ∧ k < 6 ∧ f < 4611686018427387904 := by
  unfold readH at h
  simp only at h
  split at h
  · cases h
  rename_i g1
  split at h
  · cases h
  rename_i g2
  split at h
  · cases h
  rename_i g3
  split at h
  · cases h
  rename_i g4
  simp only [Except.ok.injEq, Prod.mk.injEq] at h
  obtain ⟨hv, hk, hf⟩ := h
  have t1 := dec62_take (l := d.drop 1) (by omega)
  have t2 := dec62_take (l := d.drop (1 + (dec62 (d.drop 1)).2)) (by omega)
  have t3 := dec62_take (l := d.drop (1 + (dec62 (d.drop 1)).2 + (dec62 (d.drop (1 + (dec62 (d.drop 1)).2))).2)) (by omega)
  have hf62 : f < 4611686018427387904 := by
    rw [← hf]
    rcases dec62_cases (d.drop (1 + (dec62 (d.drop 1)).2 + (dec62 (d.drop (1 + (dec62 (d.drop 1)).2))).2)) with h | h
    · rw [h]; decide
    · exact h.1
  rw [hv] at t1 g3
  rw [hk] at t2 g4
  rw [hf] at t3
  generalize (dec62 (d.drop 1)).2 = i at *
  generalize (dec62 (d.drop (1 + i))).2 = j at *
  generalize (dec62 (d.drop (1 + i + j))).2 = m at *
  refine ⟨?_, by omega, by omega, by omega, hf62⟩
  cases d with
  | nil => exact absurd (.inl rfl) g1
  | cons c t =>
    have hc : c = 108 := by
      have := fun h => g1 (.inr h)
      simpa using Decidable.not_not.1 this
    have x1 : (c :: t).drop 1 = t := rfl
    have x2 : (c :: t).drop (1 + i) = t.drop i := by rw [Nat.add_comm, List.drop_succ_cons]
    have x3 : (c :: t).drop (1 + i + j) = (t.drop i).drop j := by rw [← List.drop_drop, x2]
    rw [x1] at t1
    rw [x2] at t2
    rw [x3] at t3
    have hm : m = ((t.drop i).drop j).length := by
      have : 1 + i + j + m = (c :: t).length := Decidable.not_not.1 (fun h => g2 (.inr (.inr (.inr h))))
      rw [List.length_cons] at this
      rw [List.length_drop, List.length_drop]
      omega
    rw [hm, List.take_length] at t3
    unfold headS
    rw [hc, t1, t2, t3, List.take_append_drop, List.take_append_drop]

theorem walkB_sound3 (first : Int) : ∀ (B : List (List UInt8)) (acc r : List Rec) (last n : Nat), acc.length ≤ 4096 → walkB 3 first B acc last = (r, n, 0) →
    ∃ l, r = acc ++ l ∧ B = blocksS 3 l ∧ RecsOk l (first + acc.length) ∧ (last < 16 → l = []) ∧ acc.length + l.length ≤ 4096
  | [], acc, r, last, n, ha, h => by
    rw [walkB] at h
    simp only [Prod.mk.injEq] at h
    refine ⟨[], by rw [List.append_nil]; exact h.1.symm, by unfold blocksS; rw [chunks_nil]; rfl, ⟨by simp, by simp, trivial⟩, fun _ => rfl, by simpa using ha⟩
  | d :: ds, acc, r, last, n, ha, h => by
    rw [walkB] at h
    cases hrd : readBk 3 d (first + acc.length) with
    | none => rw [hrd] at h; simp at h
    | some c =>
      rw [hrd] at h
      simp only at h
      split at h
      · simp at h
      rename_i g1
      split at h
      · simp at h
      rename_i g2
      simp only [Prod.mk.injEq] at h
      obtain ⟨q1, _, q3⟩ := h
      obtain ⟨l, e1, e2, e3, e4, e5⟩ := walkB_sound3 first ds (acc ++ c) r c.length (walkB 3 first ds (acc ++ c) c.length).2.1 (by rw [List.length_append]; omega) (by rw [← q1, ← q3])
      obtain ⟨g3, g4, hdv⟩ := readBk_is hrd
      rw [List.length_append] at e5 e3
      have hne : c ≠ [] := fun e => by rw [e] at g3; simp at g3
      have hbk : blocksS 3 (c ++ l) = d :: blocksS 3 l := by
        have hone : blocksS 3 c = [d] := by
          unfold blocksS
          rw [chunks_few hne g3.2, List.map_cons, List.map_nil, hdv]
        by_cases h16 : c.length < 16
        · rw [e4 h16, List.append_nil, hone]
          unfold blocksS
          rw [chunks_nil]
          rfl
        · rw [blocks_app 3 1 c l (by omega), hone]
          rfl
      refine ⟨c ++ l, by rw [e1, List.append_assoc], by rw [hbk, e2], ⟨by rw [List.length_append]; omega, fun s hs => ?_, ?_⟩, fun hh => absurd hh g1, by rw [List.length_append]; omega⟩
      · rcases List.mem_append.1 hs with hs | hs
        · exact g4.2.1 s hs
        · exact e3.2.1 s hs
      · rw [chain_app]
        refine ⟨g4.2.2, ?_⟩
        have e : first + (acc.length : Int) + (c.length : Int) = first + ((acc.length + c.length : Nat) : Int) := by omega
        rw [e]
        exact e3.2.2

theorem head_third {v k f : Nat} (h1 : 1 ≤ v) (h3 : v ≤ 3) (hk : k < 6) (hf : f < 4611686018427387904) (t : List UInt8) : (frameOf (headS v k f) ++ t).getD 2 0 = v.toUInt8 := by
  have hl := headS_len (v := v) h3 hk hf
  unfold frameOf headOf
  rw [uv_small (n := (headS v k f).length) (by omega)]
  unfold headS
  rw [uv_small (n := v) (by omega)]
  rfl

/-- Decoded of a version 3 and encoded: the same bytes. -/
theorem decS8_once {b : List UInt8} {s : Seg} (h : decS8 b = (s, 0)) (h2 : b.getD 2 0 = 3) : MayG s ∧ encS8 3 s = b := by
  unfold decS8 at h
  by_cases hw : (wholeF b).2.2 = 0
  case neg =>
    rw [if_pos hw] at h
    simp only [Prod.mk.injEq] at h
    omega
  rw [if_neg (fun h => h hw)] at h
  obtain ⟨a1, a2⟩ := wholeF_all _ b (Nat.le_refl _) hw
  generalize (wholeF b).1 = L at *
  unfold decL8 at h
  split at h
  · simp at h
  rename_i hl
  match L, hl, h, a1, a2 with
  | [], hl, _, _, _ => exact absurd (by simp) hl
  | [_], hl, _, _, _ => exact absurd (by simp) hl
  | H :: X :: T, _, h, a1, a2 =>
    rw [List.headD_cons] at h
    cases hrd : readH H with
    | error e =>
      rw [hrd] at h
      simp only [Prod.mk.injEq] at h
      exfalso
      have h0 := h.2
      rw [h0] at hrd
      unfold readH at hrd
      simp only at hrd
      repeat' split at hrd
      all_goals simp at hrd
    | ok x =>
      obtain ⟨v, k, f⟩ := x
      rw [hrd] at h
      simp only at h
      obtain ⟨hH, v1, v3, hk, hf⟩ := readH_sound hrd
      have hv : v = 3 := by
        rw [← a1, framesOf_cons, hH, head_third v1 v3 hk hf] at h2
        have := congrArg UInt8.toNat h2
        rw [toU8_toNat (by omega)] at this
        exact this
      subst hv
      rw [List.tail_cons] at h
      split at h
      · simp only [Prod.mk.injEq] at h
        rename_i hne
        exact absurd h.2 hne
      rename_i hz
      have hz := Decidable.not_not.1 hz
      split at h
      · rename_i hft
        simp only [Prod.mk.injEq, and_true] at h
        obtain ⟨l, e1, e2, e3, _, e5⟩ := walkB_sound3 f (X :: T).dropLast [] _ 16 (walkB 3 f (X :: T).dropLast [] 16).2.1 (by simp) (by rw [← hz])
        rw [List.nil_append] at e1
        rw [e1] at h
        subst h
        have ef : (f : Int) + (([] : List Rec).length : Int) = f := by simp
        rw [ef] at e3
        refine ⟨⟨⟨by simp, by simp only; omega, by simp, by simp only; omega⟩, e3⟩, ?_⟩
        rw [← a1]
        unfold encS8 partsS
        simp only [Int.toNat_natCast]
        rw [← hH, ← e2, hft]
        congr 2
        have hne : X :: T ≠ [] := by simp
        have hlast : (H :: X :: T).getLastD [] = (X :: T).getLast hne := by
          rw [List.getLastD_eq_getLast?, List.getLast?_cons_cons, List.getLast?_eq_some_getLast hne]
          rfl
        rw [hlast]
        exact List.dropLast_concat_getLast hne
      · simp at h

end Go.Proofs.YtddhcohjmgdajabDoor

/- Segments: cut, and what is whole of them. -/
namespace Go.Proofs.YtddhcohjmgdajabDoor

theorem wholes_bytes : ∀ (L : List (List UInt8)) (m : Nat), (wholes L m).2 = (framesOf (L.take (wholes L m).1)).length
  | [], m => by simp [wholes, framesOf]
  | x :: L, m => by
    unfold wholes
    split
    · rw [List.take_succ_cons, framesOf_cons, List.length_append, ← wholes_bytes L (m - (frameOf x).length)]
      simp only
      omega
    · simp [framesOf]

theorem chunks_take (l : List Rec) (k : Nat) : chunks (l.take (16 * k)) = (chunks l).take k := by
  by_cases h : 16 * k ≤ l.length
  · have hl : (l.take (16 * k)).length = 16 * k := by rw [List.length_take]; omega
    have e := chunks_app k (l.take (16 * k)) (l.drop (16 * k)) hl
    rw [List.take_append_drop] at e
    have hc := chunks_length _ (l.take (16 * k)) (Nat.le_refl _)
    rw [hl] at hc
    have e' : (chunks l).take k = (chunks (l.take (16 * k)) ++ chunks (l.drop (16 * k))).take k := by rw [← e]
    rw [e', List.take_append_of_le_length (by omega)]
    exact (List.take_of_length_le (by omega)).symm
  · have hc := chunks_length _ l (Nat.le_refl _)
    rw [List.take_of_length_le (by omega), List.take_of_length_le (by omega)]

theorem blocks_take (v : Nat) (l : List Rec) (k : Nat) : blocksS v (l.take (16 * k)) = (blocksS v l).take k := by
  unfold blocksS
  rw [chunks_take, List.map_take]

theorem chunks_get (l : List Rec) (q : Nat) (hq : q < (chunks l).length) : (chunks l)[q] = (l.drop (16 * q)).take 16 := by
  have hc := chunks_length _ l (Nat.le_refl _)
  have hl : (l.take (16 * q)).length = 16 * q := by rw [List.length_take]; omega
  have hlc := chunks_length _ (l.take (16 * q)) (Nat.le_refl _)
  rw [hl] at hlc
  have e := chunks_app q (l.take (16 * q)) (l.drop (16 * q)) hl
  rw [List.take_append_drop] at e
  have hne : l.drop (16 * q) ≠ [] := fun h => by
    have := congrArg List.length h
    rw [List.length_drop, List.length_nil] at this
    omega
  rw [chunks_cons hne] at e
  have : (chunks l)[q]? = some ((l.drop (16 * q)).take 16) := by
    rw [e, List.getElem?_append_right (by omega)]
    have : q - (chunks (l.take (16 * q))).length = 0 := by omega
    rw [this]
    rfl
  rw [List.getElem?_eq_getElem hq] at this
  exact Option.some.inj this

/-- A block is no footer of the blocks ahead of it. -/
theorem foot_ne {v k f : Nat} (h1 : 1 ≤ v) (h3 : v ≤ 3) (hk : k < 6) (hf : f < 4611686018427387904) (B : List (List UInt8)) (hB : B.length ≤ 4096) {c : List Rec} (hc1 : 1 ≤ c.length) (hc2 : c.length ≤ 16) (hr : RecsOk c (f + 16 * B.length)) :
    footS (headS v k f) B ≠ dataV v c := by
  intro h
  have hne : c ≠ [] := fun e => by rw [e] at hc1; simp at hc1
  match c, hne with
  | r :: t, _ =>
    have hrf := hr.2.1 r (by simp)
    have hri := hr.2.2.1
    obtain ⟨_, i0, i1, _⟩ := hrf
    unfold footS dataV at h
    by_cases hv : v = 3
    · rw [if_pos hv] at h
      unfold encB at h
      rw [List.headD_cons] at h
      obtain ⟨e1, e2⟩ := uv_inj62 (by omega) (by omega) h
      have hb0 : B.length = 0 := by omega
      have e : B = [] := List.eq_nil_of_length_eq_zero hb0
      rw [e, offsS] at e2
      have := congrArg List.length e2
      rw [List.length_nil, List.length_append] at this
      have := Lib.uvarint_pos (r :: t).length
      omega
    · rw [if_neg hv, List.flatMap_cons] at h
      have hr' := hr.2.1 r (by simp)
      have hel := encR_len h1 h3 hr'
      unfold elderE at h
      rw [List.append_assoc] at h
      obtain ⟨e1, e2⟩ := uv_inj62 (by omega) (by omega) h
      obtain ⟨t0, he⟩ := encR_first h1 h3 r
      match B, e1, e2 with
      | [], e1, e2 =>
        rw [offsS] at e2
        rw [he] at e2
        simp at e2
      | x :: xs, e1, e2 =>
        have hl := headS_len (v := v) h3 hk hf
        have hfl := frameOf_length (headS v k f)
        have hu : (Lib.uvarint (headS v k f).length).length = 1 := by rw [uv_small (by omega)]; rfl
        have hp : 1 ≤ (headS v k f).length := by unfold headS; simp
        rw [offsS, he, uv_small (by omega)] at e2
        simp only [List.cons_append, List.cons.injEq] at e2
        have := congrArg UInt8.toNat e2.1
        rw [toU8_toNat (by omega), toU8_toNat (by omega)] at this
        omega

/-- The beginning of a segment, frame by frame. -/
theorem parts_take (v : Nat) (s : Seg) (n : Nat) (hn : n < (partsS v s).length) (h0 : n ≠ 0) : (partsS v s).take n = headS v s.kind.toNat s.first.toNat :: (blocksS v s.recs).take (n - 1) := by
  obtain ⟨m, rfl⟩ : ∃ m, n = m + 1 := ⟨n - 1, by omega⟩
  unfold partsS at hn ⊢
  rw [List.length_cons, List.length_append, List.length_singleton] at hn
  rw [List.take_succ_cons, Nat.add_sub_cancel, List.take_append_of_le_length (by omega)]

theorem walk_part {v : Nat} (h1 : 1 ≤ v) (h3 : v ≤ 3) {s : Seg} (hm : MayG s) (q : Nat) :
    walkB v (s.first.toNat : Nat) ((blocksS v s.recs).take q) [] 16 = ((s.recs.take (16 * q)).map (upgR v), (chunks (s.recs.take (16 * q))).length, 0) := by
  obtain ⟨⟨k0, k1, f0, f1⟩, hr⟩ := hm
  have hr' := hr
  rw [← List.take_append_drop (16 * q) s.recs] at hr'
  have hb := walkB_blocks h1 h3 (s.first.toNat : Nat) (s.recs.take (16 * q)).length (s.recs.take (16 * q)) [] (Nat.le_refl _) (by
    have e : ((s.first.toNat : Nat) : Int) + (([] : List Rec).length : Int) = s.first := by rw [List.length_nil]; omega
    rw [e]
    exact (recsOk_app hr').1) (by rw [List.length_nil]; have := (recsOk_app hr').1.1; omega)
  rw [List.nil_append] at hb
  rw [← blocks_take]
  exact hb

/-- Each proper beginning is refused. -/
theorem decS8_cut {v : Nat} (h1 : 1 ≤ v) (h3 : v ≤ 3) {s : Seg} (hm : MayG s) (cut : Nat) (hc : cut < (encS8 v s).length) : (decS8 ((encS8 v s).take cut)).2 ≠ 0 := by
  have hl := parts_len h1 h3 hm
  have hw := wholeF_cut (partsS v s) cut hl (Nat.le_of_lt hc)
  have hle := wholes_le (partsS v s) cut
  have hby := wholes_bytes (partsS v s) cut
  unfold decS8
  have hwp := fun q => walk_part h1 h3 hm q
  obtain ⟨⟨k0, k1, f0, f1⟩, hr⟩ := hm
  have ee : encS8 v s = framesOf (partsS v s) := rfl
  rw [ee] at hc ⊢
  rw [hw]
  simp only
  by_cases he : (wholes (partsS v s) cut).2 = cut
  case neg =>
    rw [if_neg he, if_pos (by decide)]
    simp
  rw [if_pos he, if_neg (by simp)]
  generalize (wholes (partsS v s) cut).1 = n at *
  have hn : n < (partsS v s).length := by
    rcases Nat.lt_or_ge n (partsS v s).length with h | h
    · exact h
    · rw [List.take_of_length_le h] at hby
      omega
  unfold decL8
  by_cases h2 : ((partsS v s).take n).length < 2
  · rw [if_pos h2]
    simp
  rw [if_neg h2]
  rw [List.length_take] at h2
  have hh := readH_head (v := v) (k := s.kind.toNat) (f := s.first.toNat) h1 h3 (by omega) (by omega)
  obtain ⟨q, rfl⟩ : ∃ q, n = q + 2 := ⟨n - 2, by omega⟩
  have hpl : (partsS v s).length = (blocksS v s.recs).length + 2 := by
    unfold partsS
    rw [List.length_cons, List.length_append, List.length_singleton]
  have hq : q < (blocksS v s.recs).length := by omega
  rw [parts_take v s (q + 2) hn (by omega)]
  have e0 : q + 2 - 1 = q + 1 := by omega
  rw [e0, List.headD_cons, hh, List.tail_cons]
  simp only
  have e1 : ((blocksS v s.recs).take (q + 1)).dropLast = (blocksS v s.recs).take q := by
    rw [List.take_add_one, List.getElem?_eq_getElem hq, Option.toList_some, List.dropLast_concat]
  have e2 : (headS v s.kind.toNat s.first.toNat :: (blocksS v s.recs).take (q + 1)).getLastD [] = (blocksS v s.recs)[q] := by
    rw [List.take_add_one, List.getElem?_eq_getElem hq, List.getLastD_eq_getLast?]
    simp only [Option.toList_some]
    rw [← List.cons_append, List.getLast?_concat]
    rfl
  have hcl : (chunks s.recs).length = (blocksS v s.recs).length := by unfold blocksS; rw [List.length_map]
  have hcc := chunks_length _ s.recs (Nat.le_refl _)
  have hqc : q < (chunks s.recs).length := by omega
  have e3 : (blocksS v s.recs)[q] = dataV v ((s.recs.drop (16 * q)).take 16) := by
    have h : (blocksS v s.recs)[q]? = some (dataV v ((s.recs.drop (16 * q)).take 16)) := by
      unfold blocksS
      rw [List.getElem?_map, List.getElem?_eq_getElem hqc, chunks_get s.recs q hqc]
      rfl
    rw [List.getElem?_eq_getElem hq] at h
    exact Option.some.inj h
  rw [e1, e2, hwp q]
  simp only
  rw [if_neg (fun h => h rfl), e3]
  have hr1 := hr
  rw [← List.take_append_drop (16 * q) s.recs] at hr1
  have hr2 := (recsOk_app hr1).2
  rw [← List.take_append_drop 16 (s.recs.drop (16 * q))] at hr2
  have hr3 := (recsOk_app hr2).1
  have hle2 : 16 * q < s.recs.length := by omega
  have hlt : (s.recs.take (16 * q)).length = 16 * q := by rw [List.length_take]; omega
  have hBl : ((blocksS v s.recs).take q).length = q := by rw [List.length_take]; omega
  have := hr.1
  rw [if_neg (foot_ne h1 h3 (by omega) (by omega) _ (by omega) (by rw [List.length_take, List.length_drop]; omega) (by rw [List.length_take]; omega) (by
    rw [hBl]
    rw [hlt] at hr3
    have e : ((s.first.toNat : Nat) : Int) + 16 * (q : Int) = s.first + ((16 * q : Nat) : Int) := by omega
    rw [e]
    exact hr3))]
  simp

/-- What is whole of the head and some blocks. -/
theorem recL8_part {v : Nat} (h1 : 1 ≤ v) (h3 : v ≤ 3) {s : Seg} (hm : MayG s) (q : Nat) (hq : q ≤ (blocksS v s.recs).length) :
    recL8 (headS v s.kind.toNat s.first.toNat :: (blocksS v s.recs).take q) = (upgG v ⟨s.kind, s.first, s.recs.take (16 * q)⟩, (framesOf (headS v s.kind.toNat s.first.toNat :: (blocksS v s.recs).take q)).length, true) := by
  have hwp := walk_part h1 h3 hm q
  obtain ⟨⟨k0, k1, f0, f1⟩, hr⟩ := hm
  have hh := readH_head (v := v) (k := s.kind.toNat) (f := s.first.toNat) h1 h3 (by omega) (by omega)
  have hcl : (chunks (s.recs.take (16 * q))).length = q := by
    rw [chunks_take, List.length_take]
    have hb : (chunks s.recs).length = (blocksS v s.recs).length := by unfold blocksS; rw [List.length_map]
    omega
  unfold recL8
  rw [if_neg (by simp), List.headD_cons, hh]
  simp only
  rw [List.tail_cons, hwp]
  simp only
  have ht : (headS v s.kind.toNat s.first.toNat :: (blocksS v s.recs).take q).take (1 + q) = headS v s.kind.toNat s.first.toNat :: (blocksS v s.recs).take q := List.take_of_length_le (by rw [List.length_cons, List.length_take]; omega)
  rw [hcl, ht]
  unfold upgG
  rw [Int.toNat_of_nonneg k0, Int.toNat_of_nonneg f0]

theorem recS8_none {v : Nat} (h1 : 1 ≤ v) (h3 : v ≤ 3) {s : Seg} (hm : MayG s) (cut : Nat) (hc : cut < (frameOf (headS v s.kind.toNat s.first.toNat)).length) : recS8 ((encS8 v s).take cut) = (zeroG, 0, false) := by
  have hl := parts_len h1 h3 hm
  have ee : encS8 v s = framesOf (partsS v s) := rfl
  have hlt : cut ≤ (framesOf (partsS v s)).length := by
    unfold partsS
    rw [framesOf_cons, List.length_append]
    omega
  have hw := wholeF_cut (partsS v s) cut hl hlt
  have hz : wholes (partsS v s) cut = (0, 0) := by
    unfold partsS
    rw [wholes, if_neg (by omega)]
  unfold recS8
  rw [ee, hw, hz]
  rfl

theorem recS8_cut {v : Nat} (h1 : 1 ≤ v) (h3 : v ≤ 3) {s : Seg} (hm : MayG s) (cut : Nat) (hc : cut < (encS8 v s).length) (q : Nat) (hq : q ≤ (blocksS v s.recs).length)
    (ha : (framesOf (headS v s.kind.toNat s.first.toNat :: (blocksS v s.recs).take q)).length ≤ cut)
    (hb : q = (blocksS v s.recs).length ∨ cut < (framesOf (headS v s.kind.toNat s.first.toNat :: (blocksS v s.recs).take (q + 1))).length) :
    recS8 ((encS8 v s).take cut) = (upgG v ⟨s.kind, s.first, s.recs.take (16 * q)⟩, (framesOf (headS v s.kind.toNat s.first.toNat :: (blocksS v s.recs).take q)).length, true) := by
  have hl := parts_len h1 h3 hm
  have ee : encS8 v s = framesOf (partsS v s) := rfl
  rw [ee] at hc ⊢
  have hw := wholeF_cut (partsS v s) cut hl (Nat.le_of_lt hc)
  have hpl : (partsS v s).length = (blocksS v s.recs).length + 2 := by
    unfold partsS
    rw [List.length_cons, List.length_append, List.length_singleton]
  have ht := parts_take v s (q + 1) (by omega) (by omega)
  rw [Nat.add_sub_cancel] at ht
  have hz := wholes_at (partsS v s) cut (q + 1) (by omega) (by rw [ht]; exact ha) (.inr (by
    rcases hb with hb | hb
    · have e : (partsS v s).take (q + 1 + 1) = partsS v s := List.take_of_length_le (by omega)
      rw [e]
      exact hc
    · by_cases e : q = (blocksS v s.recs).length
      · have e : (partsS v s).take (q + 1 + 1) = partsS v s := List.take_of_length_le (by omega)
        rw [e]
        exact hc
      · rw [parts_take v s (q + 1 + 1) (by omega) (by omega), Nat.add_sub_cancel]
        exact hb))
  unfold recS8
  rw [hw, hz]
  simp only
  rw [ht]
  exact recL8_part h1 h3 hm q hq

/-- The head and all blocks, and nothing behind them. -/
theorem recS8_all {v : Nat} (h1 : 1 ≤ v) (h3 : v ≤ 3) {s : Seg} (hm : MayG s) :
    recS8 (framesOf (headS v s.kind.toNat s.first.toNat :: blocksS v s.recs)) = (upgG v s, (framesOf (headS v s.kind.toNat s.first.toNat :: blocksS v s.recs)).length, true) := by
  have hl := parts_len h1 h3 hm
  have hw := wholeF_frames (headS v s.kind.toNat s.first.toNat :: blocksS v s.recs) (fun x hx => hl x (by
    unfold partsS
    rcases List.mem_cons.1 hx with h | h
    · rw [h]; simp
    · simp [h]))
  have hr := recL8_part h1 h3 hm (blocksS v s.recs).length (Nat.le_refl _)
  rw [List.take_length] at hr
  have hbl := blocksS_len (v := v) s.recs
  rw [List.take_of_length_le (by omega)] at hr
  unfold recS8
  rw [hw]
  exact hr

theorem mayG_take {s : Seg} (h : MayG s) (n : Nat) : MayG ⟨s.kind, s.first, s.recs.take n⟩ := by
  obtain ⟨h1, hr⟩ := h
  refine ⟨h1, ?_⟩
  rw [← List.take_append_drop n s.recs] at hr
  exact (recsOk_app hr).1

end Go.Proofs.YtddhcohjmgdajabDoor

/- Contracts of ferrymanref08: Head, data, joined, footer. -/
namespace Go.Proofs.YtddhcohjmgdajabDoor
open Go.RowKit

/-- May a head be? -/
def HeadOk (k f : Int) : Prop := 0 ≤ k ∧ k < 6 ∧ 0 ≤ f ∧ f < 4611686018427387904

instance (k f : Int) : Decidable (HeadOk k f) := by unfold HeadOk; infer_instance

def headErr (v k f : Int) : Int := if 1 ≤ v ∧ v ≤ 3 then (if HeadOk k f then 0 else 1) else 6

def headL (v k f : Int) : List UInt8 := if 1 ≤ v ∧ v ≤ 3 then (if HeadOk k f then frameOf (headS v.toNat k.toNat f.toNat) else []) else []

/-- What Head answers. -/
def Headed (w : World) (v k f : Int) (e : Ending) (w' : World) : Prop :=
  ∃ v', e = .returned (.tuple #[v', .int .i64 (headErr v k f)]) ∧ Own w' w.heap.size v' (headL v k f) ∧ Below w.heap.size w w'

/-- One byte, just made. -/
theorem Rd.byte (w : World) (c : UInt8) : Rd (w.alloc (.cells #[.int .u8 c.toNat] 5)) (.slice (some ⟨w.heap.size, 0, none⟩) 1 1) [c] := by
  refine ⟨some ⟨w.heap.size, 0, none⟩, 1, rfl, Nat.le_refl _, by unfold maxLen; omega, (fun h => by cases h), .inr ⟨w.heap.size, 0, rfl, fun j hj => ?_⟩⟩
  have e : j = 0 := by simpa using hj
  subst e
  rw [cell_of_row _ w.heap.size 0 _ 5 (0, 0) (heap_alloc_new w _)]
  rfl

theorem frame_ok {l : List UInt8} (h : l.length ≤ 1048576) : encF l = (frameOf l, 0) := by
  unfold encF
  rw [if_pos h]

end Go.Proofs.YtddhcohjmgdajabDoor

/- Contracts of ferrymanref08: joined, footer, framed, frames, Body, Encode. -/
namespace Go.Proofs.YtddhcohjmgdajabDoor
open Go.RowKit

theorem takeL_snoc {L : List (List UInt8)} {q : Nat} (h : q < L.length) : L.take (q + 1) = L.take q ++ [L.getD q []] := by
  rw [List.take_add_one]
  simp [List.getD, h]

/-- How far slices stand from each other. -/
def offsF : Nat → List (List UInt8) → List UInt8
  | _, [] => []
  | d, x :: xs => Lib.uvarint d ++ offsF x.length xs

/-- The length of the last one. -/
def lastN : Nat → List (List UInt8) → Nat
  | d, [] => d
  | _, x :: xs => lastN x.length xs

theorem offsF_snoc : ∀ (A : List (List UInt8)) (d : Nat) (x : List UInt8), offsF d (A ++ [x]) = offsF d A ++ Lib.uvarint (lastN d A)
  | [], d, x => by simp [offsF, lastN]
  | y :: A, d, x => by rw [List.cons_append, offsF, offsF_snoc A, offsF, lastN, List.append_assoc]

theorem lastN_snoc : ∀ (A : List (List UInt8)) (d : Nat) (x : List UInt8), lastN d (A ++ [x]) = x.length
  | [], d, x => rfl
  | y :: A, d, x => by rw [List.cons_append, lastN, lastN_snoc A]

theorem lastN_lt {n : Nat} : ∀ (A : List (List UInt8)) (d : Nat), d ≤ n → (∀ x ∈ A, x.length ≤ n) → lastN d A ≤ n
  | [], d, hd, _ => hd
  | y :: A, d, _, hA => by
    rw [lastN]
    exact lastN_lt A y.length (hA y (by simp)) (fun x hx => hA x (by simp [hx]))

theorem offsF_len {n : Nat} (hn : n < 4611686018427387904) : ∀ (A : List (List UInt8)) (d : Nat), d ≤ n → (∀ x ∈ A, x.length ≤ n) → (offsF d A).length ≤ 10 * A.length
  | [], d, _, _ => by simp [offsF]
  | y :: A, d, hd, hA => by
    have q : (Lib.uvarint d).length ≤ 10 := uv10' (by omega)
    have ih := offsF_len hn A y.length (hA y (by simp)) (fun x hx => hA x (by simp [hx]))
    rw [offsF, List.length_append, List.length_cons]
    omega

theorem offsF_frames : ∀ (B : List (List UInt8)) (d : Nat), offsF d (B.map frameOf) = offsS d B
  | [], _ => rfl
  | x :: xs, d => by rw [List.map_cons, offsF, offsS, offsF_frames xs]

/-- The slices that are read, one by one, in every later world. -/
theorem RdL.at {w : World} {ao : Option Addr} {n cap : Nat} {L : List (List UInt8)} (h : RdL w (.slice ao n cap) L) (k : Nat) (hk : k < L.length) :
    ∃ b off x, ao = some ⟨b, off, none⟩ ∧ (∀ W, Below w.heap.size w W → W.cell? ⟨b, off + k, none⟩ = some x) ∧ ∀ W, Below w.heap.size w W → Rd W x (L.getD k []) := by
  obtain ⟨ao', cap', e, _, _, _, hao⟩ := h
  simp only [Value.slice.injEq] at e
  obtain ⟨rfl, _, rfl⟩ := e
  rcases hao with h0 | ⟨b, off, hab, hc⟩
  · rw [h0] at hk; simp at hk
  · obtain ⟨x, hx, hxr⟩ := hc k hk
    have hlt : b < w.heap.size := World.block_lt_of_cell? w ⟨b, off + k, none⟩ hx
    exact ⟨b, off, x, hab, fun W hb => (hb.cell (p := ⟨b, off + k, none⟩) hlt).trans hx, fun W hb => hxr.below hb (Nat.le_refl _)⟩

theorem flatten_snoc (L : List (List UInt8)) (q : Nat) (h : q < L.length) : (L.take (q + 1)).flatten = (L.take q).flatten ++ L.getD q [] := by
  rw [takeL_snoc h, List.flatten_append]
  simp

theorem flatten_take_len : ∀ (L : List (List UInt8)) (k : Nat), (L.take k).flatten.length ≤ L.flatten.length
  | [], k => by simp
  | x :: L, 0 => by simp
  | x :: L, k + 1 => by
    have := flatten_take_len L k
    rw [List.take_succ_cons, List.flatten_cons, List.flatten_cons, List.length_append, List.length_append]
    omega

end Go.Proofs.YtddhcohjmgdajabDoor

/- Contracts of ferrymanref08: framed, frames, Body, Encode. -/
namespace Go.Proofs.YtddhcohjmgdajabDoor
open Go.RowKit

theorem map_snoc (L : List (List UInt8)) (q : Nat) (h : q < L.length) : (L.take (q + 1)).map frameOf = (L.take q).map frameOf ++ [frameOf (L.getD q [])] := by
  rw [takeL_snoc h, List.map_append]
  rfl

theorem getD_mem {L : List (List UInt8)} {q : Nat} (h : q < L.length) : L.getD q [] ∈ L := by
  have e : L.getD q [] = L[q] := by simp [List.getD, h]
  rw [e]
  exact List.getElem_mem h

theorem blocks_get (v : Nat) (l : List Rec) (k : Nat) (hk : k < (blocksS v l).length) : (blocksS v l).getD k [] = dataV v ((l.drop (16 * k)).take 16) := by
  have hkc : k < (chunks l).length := by unfold blocksS at hk; rw [List.length_map] at hk; exact hk
  have h : (blocksS v l)[k]? = some (dataV v ((l.drop (16 * k)).take 16)) := by
    unfold blocksS
    rw [List.getElem?_map, List.getElem?_eq_getElem hkc, chunks_get l k hkc]
    rfl
  simp [List.getD, h]

theorem recsOk_mid {l : List Rec} {i : Int} (h : RecsOk l i) (a n : Nat) (ha : a ≤ l.length) : RecsOk ((l.drop a).take n) (i + a) := by
  rw [← List.take_append_drop a l] at h
  have h2 := (recsOk_app h).2
  have e : (l.take a).length = a := by rw [List.length_take]; omega
  rw [e, ← List.take_append_drop n (l.drop a)] at h2
  exact (recsOk_app h2).1

end Go.Proofs.YtddhcohjmgdajabDoor

/- Contracts of ferrymanref08: Body, Encode. -/
namespace Go.Proofs.YtddhcohjmgdajabDoor
open Go.RowKit

def bodyErr (v : Int) (l : List Rec) : Int := if 1 ≤ v ∧ v ≤ 3 then (if RecsOk l (l.headD zeroR).idx then 0 else 1) else 6

def bodyL (v : Int) (l : List Rec) : List UInt8 := if 1 ≤ v ∧ v ≤ 3 then (if RecsOk l (l.headD zeroR).idx then framesOf (blocksS v.toNat l) else []) else []

/-- What Body answers. -/
def Bodied (w : World) (v : Int) (l : List Rec) (e : Ending) (w' : World) : Prop :=
  ∃ v', e = .returned (.tuple #[v', .int .i64 (bodyErr v l)]) ∧ Own w' w.heap.size v' (bodyL v l) ∧ Below w.heap.size w w'

theorem flatten_frames (B : List (List UInt8)) : (B.map frameOf).flatten = framesOf B := by
  unfold framesOf
  rw [List.flatMap_def]

theorem framesOf_len : ∀ (B : List (List UInt8)), (∀ d ∈ B, d.length ≤ 6000) → (framesOf B).length ≤ 6014 * B.length
  | [], _ => by simp [framesOf]
  | x :: B, h => by
    have hx := h x (by simp)
    have h1 := frameOf_len6 (d := x) (by omega)
    have ih := framesOf_len B (fun d hd => h d (by simp [hd]))
    rw [framesOf_cons, List.length_append, List.length_cons]
    omega

theorem headD_ok {w : World} {v : Value} {l : List Rec} (h : RdR w v l) : I64 (l.headD zeroR).idx := by
  obtain ⟨_, _, _, _, _, _, hw, _⟩ := h
  cases l with
  | nil => exact ⟨by decide, by decide⟩
  | cons r t =>
    have := hw r (by simp)
    exact this.1

def segErr (v : Int) (s : Seg) : Int := if 1 ≤ v ∧ v ≤ 3 then (if MayG s then 0 else 1) else 6

def segL (v : Int) (s : Seg) : List UInt8 := if 1 ≤ v ∧ v ≤ 3 then (if MayG s then encS8 v.toNat s else []) else []

/-- What Encode answers. -/
def EncodedG (w : World) (v : Int) (s : Seg) (e : Ending) (w' : World) : Prop :=
  ∃ v', e = .returned (.tuple #[v', .int .i64 (segErr v s)]) ∧ Own w' w.heap.size v' (segL v s) ∧ Below w.heap.size w w'

end Go.Proofs.YtddhcohjmgdajabDoor

/- Contract of ferrymanref06: Decode. -/
namespace Go.Proofs.YtddhcohjmgdajabDoor
open Go.RowKit

/-- What is decoded: a record and no error, or none and the error. -/
def DecodedR (w : World) (l : List UInt8) (e : Ending) (w' : World) : Prop :=
  e = .returned (.tuple #[recV (decR l).1, .int .i64 (decR l).2]) ∧ Below w.heap.size w w'

def finR (v : Nat) : Except Int (Rec × Nat) → Rec × Int
  | .error e => (zeroR, e)
  | .ok (r, found) => if found ≠ v + 2 then (zeroR, 7) else if FitsR r then (r, 0) else (zeroR, 1)

theorem decR_fin {l : List UInt8} (h : l ≠ []) (hk : (dec62 l).2 ≠ 0) (h1 : 1 ≤ (dec62 l).1) (h3 : (dec62 l).1 ≤ 3) : decR l = finR (dec62 l).1 (walkV (dec62 l).1 (l.drop (dec62 l).2) (-1) 0 zeroR) := by
  unfold decR
  rw [if_neg h, if_neg hk, if_neg (by omega)]
  rfl

/-- The boxes within Decode's loop. -/
structure DecIR (w wr : World) (r : Rec) : Prop where
  res : Br wr w.heap.size #[.int .i64 0, .int .i64 0, .int .i64 0, .int .i64 0, .int .i64 0, .int .i64 0, .int .i64 0]
  none : Br wr (w.heap.size + 1) #[.int .i64 0, .int .i64 0, .int .i64 0, .int .i64 0, .int .i64 0, .int .i64 0, .int .i64 0]
  box : Br wr (w.heap.size + 1 + 1) #[.int .i64 r.idx, .int .i64 r.proc, .int .i64 r.seq, .int .i64 r.op.code, .int .i64 r.op.a, .int .i64 r.op.b, .int .i64 r.resp]
  below : Below w.heap.size w wr

theorem belowSeven {C : Nat} {w0 w : World} (h : Below C w0 w) (R : Nat) (hR : C ≤ R) (x0 x1 x2 x3 x4 x5 x6 : Value) : Below C w0 (((((((w.setCell ⟨R, 0, none⟩ x0).setCell ⟨R, 1, none⟩ x1).setCell ⟨R, 2, none⟩ x2).setCell ⟨R, 3, none⟩ x3).setCell ⟨R, 4, none⟩ x4).setCell ⟨R, 5, none⟩ x5).setCell ⟨R, 6, none⟩ x6) :=
  ((((((h.setCell hR _).setCell hR _).setCell hR _).setCell hR _).setCell hR _).setCell hR _).setCell hR _

theorem DecodedR.fail {w w' : World} {l : List UInt8} {n : Int} (h : decR l = (zeroR, n)) (hb : Below w.heap.size w w') : DecodedR w l (.returned (.tuple #[.agg #[.int .i64 0, .int .i64 0, .int .i64 0, .int .i64 0, .int .i64 0, .int .i64 0, .int .i64 0], .int .i64 n])) w' := by
  refine ⟨?_, hb⟩
  rw [h]
  rfl

theorem DecIR.on {w wr W : World} {r : Rec} (h : DecIR w wr r) (hb : Below wr.heap.size wr W) : DecIR w W r :=
  ⟨h.res.below hb (Nat.le_refl _), h.none.below hb (Nat.le_refl _), h.box.below hb (Nat.le_refl _), h.below.trans (hb.mono h.below.size)⟩

theorem dec62_lt (l : List UInt8) : (dec62 l).1 < 4611686018427387904 := by
  rcases dec62_cases l with h | h
  · rw [h]; decide
  · exact h.1

theorem valueF_le (r : Rec) (f : Nat) (l : List UInt8) : (valueF r f l).2 ≤ l.length := by
  have h1 := dec62_le l
  have h2 := dec64_le l
  have h3 := getOp_le l
  unfold valueF
  repeat' split
  all_goals assumption

theorem cut_form (W : World) (ao : Option Addr) (cap : Nat) (l : List UInt8) (hr : Rd W (.slice ao l.length cap) l) (n : Nat) (hn : n ≤ l.length) : Rd W (.slice (if cap = n then ao else Option.map (fun x => x.add n) ao) (l.length - n) (cap - n)) (l.drop n) := by
  have hlc : l.length ≤ cap := by
    obtain ⟨a, c, e, h, -⟩ := hr
    simp only [Value.slice.injEq] at e
    omega
  have h := hr.mid n l.length cap (by omega) (by omega) (by omega) (by omega)
  rw [List.take_of_length_le (by rw [List.length_drop]; omega)] at h
  simpa [sliced] using h

/-- One field, its number read. -/
def stepV (v : Nat) (l : List UInt8) (last : Int) (found : Nat) (r : Rec) (f k : Nat) : Except Int (Rec × Nat) :=
  if k = 0 ∨ (f : Int) ≤ last then .error 3
  else if hasV v f then (if (valueF r f (l.drop k)).2 = 0 then .error 3 else walkV v (l.drop (k + (valueF r f (l.drop k)).2)) f (found + 1) (valueF r f (l.drop k)).1)
  else if f < 16 ∨ v = 3 then .error 7
  else if (dec62 (l.drop k)).2 = 0 ∨ l.length < k + (dec62 (l.drop k)).2 + (dec62 (l.drop k)).1 then .error 3
  else walkV v (l.drop (k + (dec62 (l.drop k)).2 + (dec62 (l.drop k)).1)) f found r

theorem walk_cons (v : Nat) (l : List UInt8) (last : Int) (found : Nat) (r : Rec) (hl : l ≠ []) : walkV v l last found r = stepV v l last found r (dec62 l).1 (dec62 l).2 := by
  rw [walkV, dif_neg hl]
  rfl

theorem DecIR.made (w : World) : DecIR w (((w.alloc (.cells #[.int .i64 0, .int .i64 0, .int .i64 0, .int .i64 0, .int .i64 0, .int .i64 0, .int .i64 0] 44)).alloc (.cells #[.int .i64 0, .int .i64 0, .int .i64 0, .int .i64 0, .int .i64 0, .int .i64 0, .int .i64 0] 44)).alloc (.cells #[.int .i64 0, .int .i64 0, .int .i64 0, .int .i64 0, .int .i64 0, .int .i64 0, .int .i64 0] 44)) zeroR := by
  refine ⟨?_, ?_, ?_, ?_⟩
  · exact (Below.heap_alloc _ _ _ (by simp; omega)).trans ((Below.heap_alloc _ _ _ (by simp)).trans (heap_alloc_new w _))
  · exact (Below.heap_alloc _ _ _ (by simp)).trans (two_new w _ _)
  · have h := two_new (w.alloc (.cells #[.int .i64 0, .int .i64 0, .int .i64 0, .int .i64 0, .int .i64 0, .int .i64 0, .int .i64 0] 44)) (.cells #[.int .i64 0, .int .i64 0, .int .i64 0, .int .i64 0, .int .i64 0, .int .i64 0, .int .i64 0] 44) (.cells #[.int .i64 0, .int .i64 0, .int .i64 0, .int .i64 0, .int .i64 0, .int .i64 0, .int .i64 0] 44)
    have e : ∀ X, (w.alloc X).heap.size = w.heap.size + 1 := fun X => by simp
    rw [e] at h
    exact h
  · exact Below.allocs (Below.allocs (Below.allocs (Below.refl _ _) _) _) _

/-- A cut of bytes answers the same in every world. -/
theorem run_cut_all (W : World) (ao : Option Addr) (l : List UInt8) (cap : Nat) (_hlc : l.length ≤ cap) (i : Int) (n : Nat) (hi : i = (n : Int)) (hn : n ≤ l.length) :
    (Instr.sliceAt 26 (.slice ao l.length cap) (some (.int .i64 i)) none none).run Tryd.prog W = .ok (sliced ao n l.length cap 1) W := by
  subst hi
  rw [run_sliceAt_slice W 26 _ _ _ _ under_bytes, run_slice_l W 26 ao l.length cap under_bytes .i64 (n : Int) (by omega) (by omega), elem_bytes, size_u8]
  rfl

theorem heap_seven (W : World) (b : Nat) (c0 c1 c2 c3 c4 c5 c6 : Value) (h : Br W b #[c0, c1, c2, c3, c4, c5, c6]) (x0 x1 x2 x3 x4 x5 x6 : Value) :
    Br (((((((W.setCell ⟨b, 0, none⟩ x0).setCell ⟨b, 1, none⟩ x1).setCell ⟨b, 2, none⟩ x2).setCell ⟨b, 3, none⟩ x3).setCell ⟨b, 4, none⟩ x4).setCell ⟨b, 5, none⟩ x5).setCell ⟨b, 6, none⟩ x6) b #[x0, x1, x2, x3, x4, x5, x6] := by
  have h0 := heap_setCell_same W b 0 _ _ x0 h
  have h1 := heap_setCell_same _ b 1 _ _ x1 h0
  have h2 := heap_setCell_same _ b 2 _ _ x2 h1
  have h3 := heap_setCell_same _ b 3 _ _ x3 h2
  have h4 := heap_setCell_same _ b 4 _ _ x4 h3
  have h5 := heap_setCell_same _ b 5 _ _ x5 h4
  have h6 := heap_setCell_same _ b 6 _ _ x6 h5
  unfold Br
  simpa using h6

theorem heap_seven_else (W : World) (b c : Nat) (hbc : c ≠ b) (x0 x1 x2 x3 x4 x5 x6 : Value) :
    (((((((W.setCell ⟨b, 0, none⟩ x0).setCell ⟨b, 1, none⟩ x1).setCell ⟨b, 2, none⟩ x2).setCell ⟨b, 3, none⟩ x3).setCell ⟨b, 4, none⟩ x4).setCell ⟨b, 5, none⟩ x5).setCell ⟨b, 6, none⟩ x6).heap[c]? = W.heap[c]? := by
  rw [Below.heap_setCell _ _ _ _ hbc, Below.heap_setCell _ _ _ _ hbc, Below.heap_setCell _ _ _ _ hbc, Below.heap_setCell _ _ _ _ hbc, Below.heap_setCell _ _ _ _ hbc, Below.heap_setCell _ _ _ _ hbc, Below.heap_setCell _ _ _ _ hbc]

theorem decIR_set {w W : World} {r X : Rec} (h : DecIR w W r) : DecIR w (((((((W.setCell ⟨w.heap.size + 1 + 1, 0, none⟩ (.int .i64 X.idx)).setCell ⟨w.heap.size + 1 + 1, 1, none⟩ (.int .i64 X.proc)).setCell ⟨w.heap.size + 1 + 1, 2, none⟩ (.int .i64 X.seq)).setCell ⟨w.heap.size + 1 + 1, 3, none⟩ (.int .i64 X.op.code)).setCell ⟨w.heap.size + 1 + 1, 4, none⟩ (.int .i64 X.op.a)).setCell ⟨w.heap.size + 1 + 1, 5, none⟩ (.int .i64 X.op.b)).setCell ⟨w.heap.size + 1 + 1, 6, none⟩ (.int .i64 X.resp)) X := by
  refine ⟨?_, ?_, heap_seven W _ _ _ _ _ _ _ _ h.box _ _ _ _ _ _ _, belowSeven h.below _ (by omega) _ _ _ _ _ _ _⟩
  · exact (heap_seven_else W (w.heap.size + 1 + 1) w.heap.size (by omega) _ _ _ _ _ _ _).trans h.res
  · exact (heap_seven_else W (w.heap.size + 1 + 1) (w.heap.size + 1) (by omega) _ _ _ _ _ _ _).trans h.none

end Go.Proofs.YtddhcohjmgdajabDoor

/- Contract of ferrymanref07: one. -/
namespace Go.Proofs.YtddhcohjmgdajabDoor
open Go.RowKit

/-- What bytes begin with: a record and how many bytes. -/
def OneR (w : World) (l : List Rec) (b : List UInt8) (e : Ending) (w' : World) : Prop :=
  e = .returned (.tuple #[recV (oneL l b).1, .int .i64 ((oneL l b).2 : Nat)]) ∧ Below w.heap.size w w'

theorem belowSevenB {C : Nat} {w0 w : World} (h : Below C w0 w) (R : Nat) (hR : C ≤ R) (x0 x1 x2 x3 x4 x5 x6 : Value) : Below C w0 (((((((w.setCell ⟨R, 0, none⟩ x0).setCell ⟨R, 1, none⟩ x1).setCell ⟨R, 2, none⟩ x2).setCell ⟨R, 3, none⟩ x3).setCell ⟨R, 4, none⟩ x4).setCell ⟨R, 5, none⟩ x5).setCell ⟨R, 6, none⟩ x6) :=
  ((((((h.setCell hR _).setCell hR _).setCell hR _).setCell hR _).setCell hR _).setCell hR _).setCell hR _

end Go.Proofs.YtddhcohjmgdajabDoor

/- Contract of ferrymanref07: Decode. -/
namespace Go.Proofs.YtddhcohjmgdajabDoor
open Go.RowKit

/-- What is decoded: the records, or none and ErrForm. -/
def DecodedB (w : World) (b : List UInt8) (e : Ending) (w' : World) : Prop :=
  ∃ (vl : Value) (l : List Rec) (n : Int), e = .returned (.tuple #[vl, .int .i64 n]) ∧ RdR w' vl l ∧ DecB b l n ∧ Below w.heap.size w w'

theorem DecodedB.none {w w' : World} {b : List UInt8} (h : ∀ l', FitsB l' → encB l' ≠ b) (hb : Below w.heap.size w w') : DecodedB w b (.returned (.tuple #[.slice none 0 0, .int .i64 3])) w' :=
  ⟨_, [], 3, rfl, RdR.nil _, .inr ⟨rfl, rfl, h⟩, hb⟩

theorem fitsB_head {l : List Rec} (h : FitsB l) : FitsR (l.headD zeroR) := by
  obtain ⟨h1, _, hf, _⟩ := h
  match l, h1 with
  | r :: u, _ => exact hf r (by simp)

/-- How a block's bytes begin. -/
theorem encB_begins {l : List Rec} (h : FitsB l) {b : List UInt8} (hb : encB l = b) :
    ((dec62 b).1 : Int) = (l.headD zeroR).idx ∧ (dec62 b).2 ≠ 0 ∧ (dec62 (b.drop (dec62 b).2)).1 = l.length ∧ (dec62 (b.drop (dec62 b).2)).2 ≠ 0 ∧ b.drop ((dec62 b).2 + (dec62 (b.drop (dec62 b).2)).2) = encRs [] l := by
  obtain ⟨_, i0, i1, _⟩ := fitsB_head h
  have h2 := h.2.1
  subst hb
  have d1 : dec62 (encB l) = ((l.headD zeroR).idx.toNat, (Lib.uvarint (l.headD zeroR).idx.toNat).length) := dec62_uvarint _ _ (by omega)
  have e1 : (encB l).drop (Lib.uvarint (l.headD zeroR).idx.toNat).length = Lib.uvarint l.length ++ encRs [] l := by
    unfold encB
    rw [List.drop_left]
  have d2 := dec62_uvarint l.length (encRs [] l) (by omega)
  rw [d1]
  simp only
  rw [e1, d2]
  refine ⟨by omega, uv_ne _, rfl, uv_ne _, ?_⟩
  rw [← List.drop_drop, e1, List.drop_left]

theorem one_ok {pre : List Rec} {b : List UInt8} (h : (oneL pre b).2 ≠ 0) : RecOk (oneL pre b).1 := by
  have h0 : dec62 b = dec62 b := rfl
  have hz : ∀ l : List UInt8, I64 (zag (dec64 l).1) := fun l => zag_i64 (by
    rcases dec64_cases l with e | e
    · rw [e]; decide
    · exact e.1)
  have hd : (dec62 b).1 < 4611686018427387904 := by
    rcases dec62_cases b with e | e
    · rw [e]; decide
    · exact e.1
  have hw : ∀ n : Int, I64 (IntKind.i64.wrap n) := fun n => by
    unfold I64
    rw [IntKind.wrap_i64]
    omega
  unfold oneL at h ⊢
  simp only at h ⊢
  by_cases hb : (dec62 b).2 = 0 ∨ (dec64 (b.drop (dec62 b).2)).2 = 0 ∨ (getOpL (b.drop ((dec62 b).2 + (dec64 (b.drop (dec62 b).2)).2))).2 = 0 ∨ (dec64 (b.drop ((dec62 b).2 + (dec64 (b.drop (dec62 b).2)).2 + (getOpL (b.drop ((dec62 b).2 + (dec64 (b.drop (dec62 b).2)).2))).2))).2 = 0
  · rw [if_pos hb] at h
    exact absurd rfl h
  · rw [if_neg hb]
    have hk : (getOpL (b.drop ((dec62 b).2 + (dec64 (b.drop (dec62 b).2)).2))).2 ≠ 0 := fun e => hb (.inr (.inr (.inl e)))
    have hf := (getOp_sound hk).1
    have hi := fits_i64 hf
    have hproc : I64 ((dec62 b).1 : Int) := ⟨by omega, by omega⟩
    have hcode : I64 (getOpL (b.drop ((dec62 b).2 + (dec64 (b.drop (dec62 b).2)).2))).1.code := by
      obtain ⟨hc0, hc1, _⟩ := hf
      generalize (getOpL (b.drop ((dec62 b).2 + (dec64 (b.drop (dec62 b).2)).2))).1.code = c at *
      exact ⟨by omega, by omega⟩
    have hzero : I64 0 := ⟨by decide, by decide⟩
    have hsq := hw (lastSeq pre (dec62 b).1 + zag (dec64 (b.drop (dec62 b).2)).1)
    have hrs := hz (b.drop ((dec62 b).2 + (dec64 (b.drop (dec62 b).2)).2 + (getOpL (b.drop ((dec62 b).2 + (dec64 (b.drop (dec62 b).2)).2))).2))
    have hia := hi.1
    have hib := hi.2
    clear h hb hk hf hi hz hw hd h0
    generalize IntKind.i64.wrap (lastSeq pre (dec62 b).1 + zag (dec64 (b.drop (dec62 b).2)).1) = sq at *
    generalize zag (dec64 (b.drop ((dec62 b).2 + (dec64 (b.drop (dec62 b).2)).2 + (getOpL (b.drop ((dec62 b).2 + (dec64 (b.drop (dec62 b).2)).2))).2))).1 = x at *
    generalize (getOpL (b.drop ((dec62 b).2 + (dec64 (b.drop (dec62 b).2)).2))).1 = op at *
    exact ⟨hzero, hproc, hsq, ⟨hcode, hia, hib⟩, hrs⟩

theorem one_le (pre : List Rec) (b : List UInt8) : (oneL pre b).2 ≤ b.length := by
  have b1 := dec62_le b
  have b2 := dec64_le (b.drop (dec62 b).2)
  have b3 := getOp_le (b.drop ((dec62 b).2 + (dec64 (b.drop (dec62 b).2)).2))
  have b4 := dec64_le (b.drop ((dec62 b).2 + (dec64 (b.drop (dec62 b).2)).2 + (getOpL (b.drop ((dec62 b).2 + (dec64 (b.drop (dec62 b).2)).2))).2))
  simp only [List.length_drop] at b2 b3 b4
  unfold oneL
  simp only
  split
  · exact Nat.zero_le _
  · show (dec62 b).2 + _ + _ + _ ≤ _
    omega

/-- Where the reading stands, if the bytes are those of a block. -/
def readsB (b : List UInt8) (l : List Rec) (A : Nat) : Prop := ∀ l', FitsB l' → encB l' = b → l = l'.take l.length ∧ b.drop A = encRs (l'.take l.length) (l'.drop l.length)

theorem readsB_next {b : List UInt8} {l : List Rec} {A : Nat} (h : readsB b l A) {l' : List Rec} (hf : FitsB l') (hb : encB l' = b) (hl : l.length < l'.length) :
    oneL l (b.drop A) = ({ l'.getD l.length zeroR with idx := 0 }, (encOne l (l'.getD l.length zeroR)).length) ∧ (oneL l (b.drop A)).2 ≠ 0 ∧ (l'.getD l.length zeroR).idx = (l'.headD zeroR).idx + l.length ∧ b.drop (A + (oneL l (b.drop A)).2) = encRs (l'.take (l.length + 1)) (l'.drop (l.length + 1)) := by
  obtain ⟨h1, h2⟩ := h l' hf hb
  have hfl : ∀ r ∈ l, FitsR r := fun r hr => by
    rw [h1] at hr
    exact hf.2.2.1 r (List.mem_of_mem_take hr)
  have hfr : FitsR (l'.getD l.length zeroR) := hf.2.2.1 _ (by simp [List.getD, hl])
  have ed : l'.drop l.length = l'.getD l.length zeroR :: l'.drop (l.length + 1) := by
    rw [List.drop_eq_getElem_cons hl]
    simp [List.getD, hl]
  rw [← h1, ed, encRs] at h2
  have ho := one_enc hfl hfr (encRs (l ++ [l'.getD l.length zeroR]) (l'.drop (l.length + 1)))
  rw [← h2] at ho
  have hne : (encOne l (l'.getD l.length zeroR)).length ≠ 0 := by
    unfold encOne
    have := uv_ne (l'.getD l.length zeroR).proc.toNat
    rw [List.length_append]
    omega
  refine ⟨ho, by rw [ho]; exact hne, chain_get l' _ _ hf.2.2.2 hl, ?_⟩
  rw [ho]
  simp only
  rw [← List.drop_drop, h2, List.drop_left, takeR_snoc hl, ← h1]

theorem readsB_step {b : List UInt8} {l : List Rec} {A : Nat} (h : readsB b l A) (hlen : ∀ l', FitsB l' → encB l' = b → l.length < l'.length) :
    readsB b (l ++ [{ (oneL l (b.drop A)).1 with idx := ((dec62 b).1 : Int) + l.length }]) (A + (oneL l (b.drop A)).2) := by
  intro l' hf hb
  have hl := hlen l' hf hb
  obtain ⟨h1, h2, h3, h4⟩ := readsB_next h hf hb hl
  have hidx := (encB_begins hf hb).1
  have e : (l ++ [{ (oneL l (b.drop A)).1 with idx := ((dec62 b).1 : Int) + l.length }]).length = l.length + 1 := by simp
  rw [e]
  refine ⟨?_, h4⟩
  rw [takeR_snoc hl, ← (h l' hf hb).1]
  congr 2
  rw [h1, hidx, ← h3]

end Go.Proofs.YtddhcohjmgdajabDoor

/- Of segments: what Decode and Recover answer; cuts; frames that are whole. -/
namespace Go.Proofs.YtddhcohjmgdajabDoor
open Go.RowKit

/-- A cut of bytes: the value, and what it reads as, in the first world. -/
theorem cut_at (w : World) (ao : Option Addr) (l : List UInt8) (cap : Nat) (hr : Rd w (.slice ao l.length cap) l) (n : Nat) (hn : n ≤ l.length) :
    ∃ a c, Rd w (.slice a (l.drop n).length c) (l.drop n) ∧ ∀ i : Int, i = (n : Int) → ∀ W, (Instr.sliceAt 26 (.slice ao l.length cap) (some (.int .i64 i)) none none).run Tryd.prog W = .ok (.slice a (l.drop n).length c) W := by
  have h := cut_form w ao cap l hr n hn
  have hlc : l.length ≤ cap := by
    obtain ⟨a, c, e, h, -⟩ := hr
    simp only [Value.slice.injEq] at e
    omega
  refine ⟨_, _, by rw [List.length_drop]; exact h, fun i hi W => ?_⟩
  rw [run_cut_all W ao l cap hlc i n hi hn, List.length_drop]
  simp [sliced]

theorem readH_none {d : List UInt8} (h : d = [] ∨ d.getD 0 0 ≠ 108) : readH d = .error 3 := by
  unfold readH
  rw [if_pos h]

theorem readH_some {d : List UInt8} (h : ¬ (d = [] ∨ d.getD 0 0 ≠ 108)) {v i k j f m : Nat} (h1 : dec62 (d.drop 1) = (v, i)) (h2 : dec62 (d.drop (1 + i)) = (k, j)) (h3 : dec62 (d.drop (1 + i + j)) = (f, m)) :
    readH d = if i = 0 ∨ j = 0 ∨ m = 0 ∨ 1 + i + j + m ≠ d.length then .error 3 else if v < 1 ∨ 3 < v then .error 6 else if 6 ≤ k then .error 1 else .ok (v, k, f) := by
  unfold readH
  rw [if_neg h, h1]
  simp only
  rw [h2]
  simp only
  rw [h3]

/-- A cut of bytes at both ends. -/
theorem cut2_at (w : World) (ao : Option Addr) (l : List UInt8) (cap : Nat) (hr : Rd w (.slice ao l.length cap) l) (i n : Nat) (hn : i + n ≤ l.length) :
    ∃ a c, Rd w (.slice a ((l.drop i).take n).length c) ((l.drop i).take n) ∧ ∀ I J : Int, I = (i : Int) → J = ((i + n : Nat) : Int) → ∀ W, (Instr.sliceAt 26 (.slice ao l.length cap) (some (.int .i64 I)) (some (.int .i64 J)) none).run Tryd.prog W = .ok (.slice a ((l.drop i).take n).length c) W := by
  have hlc : l.length ≤ cap := by
    obtain ⟨a, c, e, h, -⟩ := hr
    simp only [Value.slice.injEq] at e
    omega
  have h := hr.mid i (i + n) cap (by omega) (by omega) (by omega) (Nat.le_refl _)
  have e1 : i + n - i = n := by omega
  have e2 : ((l.drop i).take n).length = n := by rw [List.length_take, List.length_drop]; omega
  rw [e1] at h
  unfold sliced at h
  rw [e1] at h
  refine ⟨_, _, by rw [e2]; exact h, fun I J hI hJ W => ?_⟩
  subst hI hJ
  rw [run_sliceAt_slice W 26 _ _ _ _ under_bytes, run_slice_lh W 26 ao l.length cap under_bytes .i64 .i64 (i : Int) ((i + n : Nat) : Int) (by omega) (by omega) (by omega), elem_bytes, size_u8]
  simp only [Int.toNat_natCast, e2]
  unfold sliced
  rw [e1]
  rfl

theorem recOk_of_fits {r : Rec} (h : FitsR r) : RecOk r := by
  have hresp := fitsR_resp h
  obtain ⟨g1, g2, g3, g4, g5, g6, g7, _, _⟩ := h
  have hab := fits_i64 g1
  exact ⟨⟨by omega, by omega⟩, ⟨by omega, by omega⟩, ⟨by omega, by omega⟩, ⟨⟨by have := g1.1; omega, by have := g1.2.1; omega⟩, hab.1, hab.2⟩, hresp⟩

theorem recOk_dec {l : List UInt8} (h : (decR l).2 = 0) : RecOk (decR l).1 := by
  rcases decR_codes l with ⟨_, hf⟩ | ⟨hn, _⟩
  · exact recOk_of_fits hf
  · exact absurd h hn

/-- The records, how many frames they are of, and the error that ends them. -/
def walkL (L : List (List UInt8)) (v k f : Nat) : Seg × Nat × Int := (⟨k, f, (walkB v f L.tail [] 16).1⟩, 1 + (walkB v f L.tail [] 16).2.1, (walkB v f L.tail [] 16).2.2)

theorem OwnR.set {w : World} {C : Nat} {v : Value} {l : List Rec} (h : OwnR w C v l) (R i : Nat) (hR : R < C) (x : Value) : OwnR (w.setCell ⟨R, i, none⟩ x) C v l := ownsRow_setCell_below h hR x

theorem OwnR.drew {w : World} {B : Nat} {v : Value} {l : List Rec} (h : OwnR w B v l) : OwnR w.drew B v l := h

theorem OwnR.under {w w' : World} {B B' : Nat} {v : Value} {l : List Rec} (h : OwnR w B v l) (hb : Below B' w w') (hB : w.heap.size ≤ B') : OwnR w' B v l := h.below hb hB

theorem belowThree {C : Nat} {w0 w : World} (h : Below C w0 w) (R : Nat) (hR : C ≤ R) (x0 x1 x2 : Value) : Below C w0 (((w.setCell ⟨R, 0, none⟩ x0).setCell ⟨R, 1, none⟩ x1).setCell ⟨R, 2, none⟩ x2) :=
  ((h.setCell hR _).setCell hR _).setCell hR _

theorem walkB_step (v : Nat) (first : Int) (d : List UInt8) (ds : List (List UInt8)) (acc : List Rec) (last : Nat) :
    walkB v first (d :: ds) acc last = match readBk v d (first + acc.length) with
      | none => (acc, 0, 3)
      | some r => if last < 16 then (acc, 0, 3) else if 4096 < acc.length + r.length then (acc, 0, 5)
          else ((walkB v first ds (acc ++ r) r.length).1, (walkB v first ds (acc ++ r) r.length).2.1 + 1, (walkB v first ds (acc ++ r) r.length).2.2) := by
  rw [walkB]
  cases readBk v d (first + acc.length) <;> rfl

theorem drop_one {L : List (List UInt8)} {j : Nat} (hj : j < L.length) : L.drop j = L.getD j [] :: L.drop (j + 1) := by
  rw [List.drop_eq_getElem_cons hj]
  simp [List.getD, hj]

/-- What Decode answers. -/
def DecodedG (w : World) (b : List UInt8) (e : Ending) (w' : World) : Prop :=
  ∃ vl, e = .returned (.tuple #[.agg #[.int .i64 (decS8 b).1.kind, .int .i64 (decS8 b).1.first, vl], .int .i64 (decS8 b).2]) ∧ RdR w' vl (decS8 b).1.recs ∧ Below w.heap.size w w'

theorem wholeF_some : ∀ (n : Nat) (b : List UInt8), b.length ≤ n → framesOf (wholeF b).1 = b.take (wholeF b).2.1 ∧ ∀ x ∈ (wholeF b).1, x.length ≤ 1048576
  | 0, b, hn => by
    have e : b = [] := List.eq_nil_of_length_eq_zero (by omega)
    subst e
    rw [wholeF_nil]
    exact ⟨rfl, by simp⟩
  | n + 1, b, hn => by
    by_cases e : b = []
    · subst e
      rw [wholeF_nil]
      exact ⟨rfl, by simp⟩
    by_cases hd : (decF b).2.2 = 0
    · obtain ⟨d1, d2, d3, d4⟩ := decF_ok hd
      have h5 := decF_five hd
      rw [wholeF_step e hd]
      obtain ⟨i1, i2⟩ := wholeF_some n (b.drop (decF b).2.1) (by rw [List.length_drop]; omega)
      refine ⟨?_, fun x hx => ?_⟩
      · show framesOf ((decF b).1 :: (wholeF (b.drop (decF b).2.1)).1) = b.take ((decF b).2.1 + (wholeF (b.drop (decF b).2.1)).2.1)
        rw [framesOf_cons, i1, ← d4, List.take_add]
      · rcases List.mem_cons.1 hx with hx | hx
        · rw [hx]; exact d1
        · exact i2 x hx
    · rw [wholeF_stop e hd]
      exact ⟨rfl, by simp⟩

theorem framesOf_mem : ∀ (L : List (List UInt8)) (x : List UInt8), x ∈ L → x.length + 5 ≤ (framesOf L).length
  | y :: L, x, hx => by
    rw [framesOf_cons, List.length_append]
    rcases List.mem_cons.1 hx with h | h
    · rw [h, frameOf_length]
      have := Lib.uvarint_pos y.length
      omega
    · have := framesOf_mem L x h
      omega

theorem framesOf_many : ∀ (L : List (List UInt8)), 5 * L.length ≤ (framesOf L).length
  | [] => by simp
  | y :: L => by
    have := framesOf_many L
    have := frameOf_pos y
    rw [framesOf_cons, List.length_append, List.length_cons]
    omega

/-- The frames of bytes are not longer than these, nor more. -/
theorem wholeF_bounds (b : List UInt8) : (∀ x ∈ (wholeF b).1, x.length ≤ 1048576 ∧ x.length ≤ b.length) ∧ 5 * (wholeF b).1.length ≤ b.length := by
  obtain ⟨h1, h2⟩ := wholeF_some _ b (Nat.le_refl _)
  have h3 : (framesOf (wholeF b).1).length ≤ b.length := by
    rw [h1, List.length_take]
    omega
  refine ⟨fun x hx => ⟨h2 x hx, ?_⟩, ?_⟩
  · have := framesOf_mem _ x hx
    omega
  · have := framesOf_many (wholeF b).1
    omega

theorem decS8_err {b : List UInt8} (h : (wholeF b).2.2 ≠ 0) : decS8 b = (zeroG, ((wholeF b).2.2 : Int)) := by
  unfold decS8
  rw [if_pos h]

theorem decS8_ok {b : List UInt8} (h : (wholeF b).2.2 = 0) : decS8 b = decL8 (wholeF b).1 := by
  unfold decS8
  rw [if_neg (fun e => e h)]

/-- A list without its last one. -/
theorem tail_init {L : List (List UInt8)} (h : 2 ≤ L.length) : (L.take (L.length - 1)).headD [] = L.headD [] ∧ (L.take (L.length - 1)).tail = L.tail.dropLast ∧ L.getLastD [] = L.getD (L.length - 1) [] ∧ L.headD [] = (L.take (L.length - 1)).getD 0 [] := by
  match L, h with
  | x :: y :: t, _ =>
    refine ⟨rfl, ?_, ?_, rfl⟩
    · show ((x :: y :: t).take (t.length + 1)).tail = (y :: t).dropLast
      rw [List.take_succ_cons, List.tail_cons, List.dropLast_eq_take, List.length_cons]
      rfl
    · rw [List.getLastD_eq_getLast?, List.getLast?_eq_getElem?]
      simp [List.getD]

theorem DecodedG.fail {w w' : World} {b : List UInt8} {n : Int} (h : decS8 b = (zeroG, n)) (hb : Below w.heap.size w w') : DecodedG w b (.returned (.tuple #[.agg #[.int .i64 0, .int .i64 0, .slice none 0 0], .int .i64 n])) w' := by
  refine ⟨.slice none 0 0, ?_, ?_, hb⟩
  · rw [h]
    rfl
  · rw [h]
    exact RdR.nil _

/-- What data, frame by frame, are, once the head is read. -/
theorem decL8_walk {L : List (List UInt8)} (h2 : 2 ≤ L.length) : decL8 L = match readH ((L.take (L.length - 1)).headD []) with
    | .error e => (zeroG, e)
    | .ok (v, k, f) => if (walkL (L.take (L.length - 1)) v k f).2.2 ≠ 0 then (zeroG, (walkL (L.take (L.length - 1)) v k f).2.2)
      else if footS ((L.take (L.length - 1)).headD []) (L.take (L.length - 1)).tail = L.getD (L.length - 1) [] then ((walkL (L.take (L.length - 1)) v k f).1, 0) else (zeroG, 16) := by
  obtain ⟨e1, e2, e3, _⟩ := tail_init h2
  unfold decL8 walkL
  rw [if_neg (by omega), e1, e2, e3]
  cases readH (L.headD []) <;> rfl

/-- A cut of slices of bytes: the value, and what it reads as, in the first world. -/
theorem cutL_at (w : World) (ao : Option Addr) (L : List (List UInt8)) (m cap : Nat) (hm : m = L.length) (hr : RdL w (.slice ao m cap) L) (n : Nat) (hn : n ≤ L.length) :
    ∃ a c, RdL w (.slice a (L.drop n).length c) (L.drop n) ∧ ∀ i : Int, i = (n : Int) → ∀ W, (Instr.sliceAt 45 (.slice ao m cap) (some (.int .i64 i)) none none).run Tryd.prog W = .ok (.slice a (L.drop n).length c) W := by
  subst hm
  have hlc : L.length ≤ cap := by
    obtain ⟨a, c, e, h, -⟩ := hr
    simp only [Value.slice.injEq] at e
    omega
  have h := hr.mid n L.length cap hn (Nat.le_refl _) hlc (Nat.le_refl _)
  rw [List.take_of_length_le (by rw [List.length_drop]; omega)] at h
  unfold sliced at h
  refine ⟨_, _, by rw [List.length_drop]; exact h, fun i hi W => ?_⟩
  subst hi
  rw [run_sliceAt_slice W 45 _ _ _ _ under_rows, run_slice_l W 45 ao L.length cap under_rows .i64 (n : Int) (by omega) (by omega), elem_rows, size_bytes, List.length_drop]
  rfl

theorem cutL_front (w : World) (ao : Option Addr) (L : List (List UInt8)) (m cap : Nat) (hm : m = L.length) (hr : RdL w (.slice ao m cap) L) (n : Nat) (hn : n ≤ L.length) :
    RdL w (.slice ao n cap) (L.take n) ∧ ∀ i : Int, i = (n : Int) → ∀ W, (Instr.sliceAt 45 (.slice ao m cap) none (some (.int .i64 i)) none).run Tryd.prog W = .ok (.slice ao n cap) W := by
  subst hm
  have hlc : L.length ≤ cap := by
    obtain ⟨a, c, e, h, -⟩ := hr
    simp only [Value.slice.injEq] at e
    omega
  refine ⟨hr.front n hn, fun i hi W => ?_⟩
  subst hi
  rw [run_sliceAt_slice W 45 _ _ _ _ under_rows, run_slice_h W 45 ao L.length cap under_rows .i64 (n : Int) (by omega) (by omega), elem_rows, size_bytes]
  show Result.ok (sliced ao 0 n cap 1) W = _
  unfold sliced
  have e : (if cap = 0 then ao else ao.map (·.add (0 * 1))) = ao := by
    split
    · rfl
    · cases ao <;> simp [Addr.add]
  rw [e, Nat.sub_zero, Nat.sub_zero]

theorem readH_ne {d : List UInt8} {x : Int} (h : readH d = .error x) : x ≠ 0 := by
  intro hx
  rw [hx] at h
  unfold readH at h
  simp only at h
  repeat' split at h
  all_goals simp at h

theorem readBk_few {v : Nat} {d : List UInt8} {next : Int} {l : List Rec} (h : readBk v d next = some l) : 1 ≤ l.length ∧ l.length ≤ 16 ∧ ∀ r ∈ l, FitsR r := by
  obtain ⟨⟨h1, h2⟩, h3, _⟩ := readBk_is h
  exact ⟨h1, h2, h3.2.1⟩

theorem walkB_few (v : Nat) (first : Int) : ∀ (B : List (List UInt8)) (acc : List Rec) (last : Nat), acc.length ≤ 4096 → (walkB v first B acc last).2.2 = 0 → B.length + acc.length ≤ 4096
  | [], acc, last, ha, _ => by rw [List.length_nil]; omega
  | d :: ds, acc, last, ha, h => by
    rw [walkB_step] at h
    cases hrd : readBk v d (first + acc.length) with
    | none => rw [hrd] at h; simp at h
    | some r =>
      rw [hrd] at h
      simp only at h
      split at h
      · simp at h
      split at h
      · simp at h
      have hf := readBk_few hrd
      have ih := walkB_few v first ds (acc ++ r) r.length (by rw [List.length_append]; omega) h
      rw [List.length_append] at ih
      rw [List.length_cons]
      omega

/-- What Recover answers. -/
def RecoveredG (w : World) (b : List UInt8) (e : Ending) (w' : World) : Prop :=
  ∃ vl, e = .returned (.tuple #[.agg #[.int .i64 (recS8 b).1.kind, .int .i64 (recS8 b).1.first, vl], .int .i64 ((recS8 b).2.1 : Nat), .bool (recS8 b).2.2]) ∧ RdR w' vl (recS8 b).1.recs ∧ Below w.heap.size w w'

theorem RecoveredG.fail {w w' : World} {b : List UInt8} (h : recS8 b = (zeroG, 0, false)) (hb : Below w.heap.size w w') : RecoveredG w b (.returned (.tuple #[.agg #[.int .i64 0, .int .i64 0, .slice none 0 0], .int .i64 0, .bool false])) w' := by
  refine ⟨.slice none 0 0, ?_, ?_, hb⟩
  · rw [h]
    rfl
  · rw [h]
    exact RdR.nil _

theorem walkB_count (v : Nat) (first : Int) : ∀ (B : List (List UInt8)) (acc : List Rec) (last : Nat), (walkB v first B acc last).2.1 ≤ B.length
  | [], acc, last => by rw [walkB]; simp
  | d :: ds, acc, last => by
    rw [walkB_step, List.length_cons]
    cases readBk v d (first + acc.length) with
    | none => simp
    | some r =>
      simp only
      split
      · simp
      split
      · simp
      have ih := walkB_count v first ds (acc ++ r) r.length
      simp only
      omega

theorem framesOf_take (L : List (List UInt8)) (c : Nat) : (framesOf (L.take c)).length ≤ (framesOf L).length := by
  have h := flatten_take_len (L.map frameOf) c
  rw [flatten_frames, ← List.map_take, flatten_frames] at h
  exact h

theorem recS8_walk {b : List UInt8} (h : (wholeF b).1 ≠ []) : recS8 b = match readH ((wholeF b).1.headD []) with
    | .error _ => (zeroG, 0, false)
    | .ok (v, k, f) => ((walkL (wholeF b).1 v k f).1, (framesOf ((wholeF b).1.take (walkL (wholeF b).1 v k f).2.1)).length, true) := by
  unfold recS8 recL8
  rw [if_neg h]
  cases readH ((wholeF b).1.headD []) <;> rfl

theorem walkB_size (v : Nat) (first : Int) : ∀ (B : List (List UInt8)) (acc : List Rec) (last : Nat), acc.length ≤ 4096 → (walkB v first B acc last).1.length ≤ acc.length + 16 * B.length ∧ (walkB v first B acc last).1.length ≤ 4096
  | [], acc, last, ha => by rw [walkB]; simp; omega
  | d :: ds, acc, last, ha => by
    rw [walkB_step, List.length_cons]
    cases hrd : readBk v d (first + acc.length) with
    | none => simp only; omega
    | some r =>
      have hf := readBk_few hrd
      simp only
      split
      · simp only; omega
      split
      · simp only; omega
      have ih := walkB_size v first ds (acc ++ r) r.length (by rw [List.length_append]; omega)
      rw [List.length_append] at ih
      simp only
      omega
theorem decS8_find {b : List UInt8} (h : (decS8 b).2 = 0) : 0 ≤ (decS8 b).1.first ∧ (decS8 b).1.first < 4611686018427387904 ∧ (decS8 b).1.recs.length ≤ 4096 ∧ (wholeF b).2.2 = 0 ∧ 2 ≤ (wholeF b).1.length ∧ (decS8 b).1.recs.length ≤ 16 * ((wholeF b).1.length - 2) := by
  by_cases hw : (wholeF b).2.2 = 0
  case neg =>
    rw [decS8_err hw] at h
    simp only at h
    omega
  rw [decS8_ok hw] at h ⊢
  generalize (wholeF b).1 = L at *
  by_cases h2 : 2 ≤ L.length
  case neg =>
    unfold decL8 at h
    rw [if_pos (by omega)] at h
    simp at h
  rw [decL8_walk h2] at h ⊢
  cases hrd : readH ((L.take (L.length - 1)).headD []) with
  | error x =>
    rw [hrd] at h
    exact absurd h (readH_ne hrd)
  | ok t =>
    obtain ⟨v, k, f⟩ := t
    obtain ⟨_, _, _, _, hf⟩ := readH_sound hrd
    rw [hrd] at h
    simp only at h ⊢
    split at h
    · rename_i hne
      exact absurd h hne
    rename_i hz
    rw [if_neg hz]
    split at h
    · rename_i hfo
      rw [if_pos hfo]
      have hs := walkB_size v f (L.take (L.length - 1)).tail [] 16 (by simp)
      unfold walkL
      simp only
      rw [List.length_tail, List.length_take, List.length_nil] at hs
      refine ⟨by omega, by omega, hs.2, hw, h2, by omega⟩
    · simp at h

end Go.Proofs.YtddhcohjmgdajabDoor

/- Contracts over int of slices.Clone, Index, Contains, Delete, in the words of RdI and OwnI. -/
namespace Go.Proofs.YtddhcohjmgdajabDoor
open Go.RowKit Go.Shelf

def layM23_ren : Go.Shelf.Ren := ⟨fun | 23 => 79 | n => n, fun | 22 => 96 | 3 => 3 | 4 => 4 | 0 => 0 | n => n, fun | n => n⟩

theorem layM23 : Go.Proofs.Lays2.n23 Tryd.prog layM23_ren := {
  mixed := by kernel_rfl
  f23 := Tryd.func79.trans (congrArg some (by kernel_rfl))
  t0 := Tryd.underlying0
  a0 := Tryd.isAgg0
  z0 := Tryd.sizeOf0
  v0 := Tryd.zeroValue0
  t3 := Tryd.underlying3
  a3 := Tryd.isAgg3
  z3 := Tryd.sizeOf3
  v3 := Tryd.zeroValue3
  t4 := Tryd.underlying4
  a4 := Tryd.isAgg4
  z4 := Tryd.sizeOf4
  v4 := Tryd.zeroValue4
  t22 := Tryd.underlying96
  a22 := Tryd.isAgg96
  z22 := Tryd.sizeOf96
  v22 := Tryd.zeroValue96
  i3 := by kernel_rfl }

/-- Cells of a row, some of them written anew. -/
def layC (cur : Array Value) : Nat → List Value → Array Value
  | _, [] => cur
  | o, v :: r => layC (cur.setIfInBounds o v) (o + 1) r

theorem layC_size : ∀ (vs : List Value) (o : Nat) (cur : Array Value), (layC cur o vs).size = cur.size
  | [], _, _ => rfl
  | v :: r, o, cur => by rw [layC, layC_size r]; simp

theorem layC_get : ∀ (vs : List Value) (o : Nat) (cur : Array Value) (j : Nat), j < cur.size → (layC cur o vs)[j]? = if o ≤ j ∧ j < o + vs.length then vs[j - o]? else cur[j]?
  | [], o, cur, j, _ => by
    rw [layC, if_neg (by rw [List.length_nil]; omega)]
  | v :: r, o, cur, j, hj => by
    rw [layC, layC_get r (o + 1) _ j (by simpa using hj)]
    by_cases h : j = o
    · subst h
      rw [if_neg (by omega), if_pos (by simp)]
      simp [hj]
    · by_cases h2 : o + 1 ≤ j ∧ j < o + 1 + r.length
      · rw [if_pos h2, if_pos (by simp; omega)]
        rw [show j - o = (j - (o + 1)) + 1 by omega]
        simp
      · rw [if_neg h2, if_neg (by simp; omega)]
        simp [show ¬ o = j by omega]

theorem heap_setCells (g : Nat) (t : TypeId) : ∀ (vs : List Value) (o : Nat) (w : World) (cur : Array Value), w.heap[g]? = some (.cells cur t (0, 0)) → (w.setCells g o vs).heap[g]? = some (.cells (layC cur o vs) t (0, 0))
  | [], _, _, _, h => h
  | v :: r, o, w, cur, h => by
    rw [World.setCells, layC]
    exact heap_setCells g t r (o + 1) _ _ (heap_setCell_same w g o cur t v h)

theorem belowCells {B g : Nat} {a : World} (hg : B ≤ g) : ∀ (vs : List Value) (o : Nat) (w : World), Below B a w → Below B a (w.setCells g o vs)
  | [], _, _, h => h
  | v :: r, o, w, h => by
    rw [World.setCells]
    exact belowCells hg r (o + 1) _ (h.setCell hg v)

/-- Numbers of one's own, by their cells. -/
theorem OwnI.ofRow {w : World} {B g cap : Nat} {cur : Array Value} {l : List Int} (hB : B ≤ g) (hg : w.heap[g]? = some (.cells cur 3 (0, 0))) (hn : l.length ≤ cap) (hm : cap ≤ maxLen) (hs : cur.size = cap) (hc : ∀ j, j < l.length → cur[j]? = some (.int .i64 (l.getD j 0))) :
    OwnI w B (.slice (some ⟨g, 0, none⟩) l.length cap) l := by
  refine ⟨by rw [intCells_length, Nat.mul_one], .inr ⟨g, cap, cur, rfl, hB, hg, hn, hm, by rw [hs, Nat.mul_one], ?_⟩⟩
  apply List.ext_getElem?
  intro j
  rw [Nat.mul_one]
  by_cases hj : j < l.length
  · rw [List.getElem?_take_of_lt hj, intCells_get l j hj, Array.getElem?_toList]
    exact hc j hj
  · rw [List.getElem?_eq_none (by simp; omega), List.getElem?_eq_none (by rw [intCells_length]; omega)]

/-- The row of numbers of one's own. -/
theorem OwnI.row {w : World} {B : Nat} {v : Value} {l : List Int} (h : OwnI w B v l) : (v = .slice none 0 0 ∧ l = []) ∨ ∃ g cap cur, v = .slice (some ⟨g, 0, none⟩) l.length cap ∧ B ≤ g ∧ g < w.heap.size ∧ w.heap[g]? = some (.cells cur 3 (0, 0)) ∧ l.length ≤ cap ∧ cap ≤ maxLen ∧ cur.size = cap ∧ ∀ j, j < l.length → cur[j]? = some (.int .i64 (l.getD j 0)) := by
  rcases h.2 with ⟨h1, h2⟩ | ⟨g, cap, cur, h1, h2, h3, h4, h5, h6, h7⟩
  · exact .inl ⟨h1, List.eq_nil_of_length_eq_zero h2⟩
  · refine .inr ⟨g, cap, cur, h1, h2, (Array.getElem?_eq_some_iff.1 h3).1, h3, h4, h5, by rw [h6, Nat.mul_one], fun j hj => ?_⟩
    have e := intCells_get l j hj
    rw [← h7, Nat.mul_one, List.getElem?_take_of_lt hj, Array.getElem?_toList] at e
    exact e

theorem drewN_heap (w : World) (q : Nat) : (w.drewN q).heap = w.heap := by
  induction q generalizing w with
  | zero => rfl
  | succ n ih => exact ih _

theorem OwnI.empty {w : World} {B : Nat} {X : Obj} {cur : Array Value} {N : Nat} (hN : w.heap.size = N) (hX : X = .cells cur 3 (0, 0)) (hB : B ≤ N) (cap : Nat) (hm : cap ≤ maxLen) (hs : cur.size = cap) : OwnI (w.alloc X) B (.slice (some ⟨N, 0, none⟩) 0 cap) [] := by
  subst hN hX
  have h := World.ownsRow_made (e := 3) (size := 1) (base := B) w cur cap hB hm (by omega)
  exact h

set_option maxRecDepth 100000 in
set_option maxHeartbeats 1000000 in
/-- Clone. -/
theorem cloneN_any (v : Value) (l : List Int) (w : World) (hr : RdI w v l) (hlim : l.length ≤ 1000000) :
    Calls Tryd.prog 76 #[v] w fun e w' => ∃ v', e = .returned v' ∧ OwnI w' w.heap.size v' l ∧ Below w.heap.size w w' := by
  have HR := hide hr
  obtain ⟨ao, cap, rfl, hlc, -, hn, -⟩ := hr
  cases ao with
  | none =>
    obtain rfl : cap = 0 := hn rfl
    obtain rfl : l = [] := List.eq_nil_of_length_eq_zero (by omega)
    clear hn hlc
    have hnil : ∀ w, (binOp .eql 96 (.slice none 0 0) (.slice none 0 0)).run Tryd.prog w = .ok (.bool true) w := fun w => run_eql_slice_nil w _ _ none 0 0 Tryd.underlying96
    go_enter Tryd.func76, Tryd.ntmps76
    go_wp2
    go_ret
    exact ⟨_, rfl, OwnI.nil _ _, Below.refl _ _⟩
  | some a =>
    clear hn
    have hnil : ∀ w, (binOp .eql 96 (.slice (some a) l.length cap) (.slice none 0 0)).run Tryd.prog w = .ok (.bool false) w := fun w => run_eql_slice_nil w _ _ (some a) _ _ Tryd.underlying96
    have HB0 : Hid (∀ X, Below w.heap.size w (w.alloc X)) := fun X => (Below.refl _ _).alloc (Nat.le_refl _) X
    have HO0 : Hid (OwnI (w.alloc (.cells #[] 3)) w.heap.size (.slice (some ⟨w.heap.size, 0, none⟩) 0 0) []) := hide (OwnI.empty rfl rfl (Nat.le_refl _) 0 (Nat.zero_le _) rfl)
    go_enter Tryd.func76, Tryd.ntmps76
    go_wp2_with (at_builtin; refine wpList_append_ints _ rfl _ _ rfl w.heap.size _ [] rfl HO0.out _ l rfl (HR.out.below (HB0.out _) (Nat.le_refl _)) (by simp; omega) (by simp) ?_)
    intro v1 W1 ho1 hb1
    have HO1 := hide ho1
    have HB1 := hide ((HB0.out _).trans hb1)
    clear ho1 hb1
    go_wp2
    go_ret
    exact ⟨_, rfl, HO1.out, HB1.out⟩

/-- Where a number stands first, or -1. -/
def placeN (x : Int) (l : List Int) : Int := if x ∈ l then (l.idxOf x : Int) else -1

theorem placeN_at {x : Int} {l : List Int} {k : Nat} (hk : k < l.length) (he : l.getD k 0 = x) (hall : ∀ j, j < k → l.getD j 0 ≠ x) : placeN x l = k := by
  have hx : l[k] = x := by simpa [List.getD, hk] using he
  have hm : x ∈ l := by rw [← hx]; exact List.getElem_mem hk
  unfold placeN
  rw [if_pos hm]
  have h1 : l.idxOf x < l.length := List.idxOf_lt_length_iff.2 hm
  have h2 : l[l.idxOf x] = x := List.getElem_idxOf h1
  have h3 : l.idxOf x ≤ k := by
    rcases Nat.lt_or_ge k (l.idxOf x) with h | h
    · have := List.not_of_lt_findIdx (p := (· == x)) (xs := l) (i := k) h
      simp [hx] at this
    · exact h
  have h4 : ¬ l.idxOf x < k := fun h => hall _ h (by simp [List.getD, h1])
  omega

theorem placeN_none {x : Int} {l : List Int} (hall : ∀ j, j < l.length → l.getD j 0 ≠ x) : placeN x l = -1 := by
  unfold placeN
  rw [if_neg]
  intro hm
  obtain ⟨j, hj, he⟩ := List.getElem_of_mem hm
  exact hall j hj (by simpa [List.getD, hj] using he)

set_option maxRecDepth 100000 in
set_option maxHeartbeats 1000000 in
/-- Index. -/
theorem indexN_any (v : Value) (l : List Int) (x : Int) (w : World) (hr : RdI w v l) :
    Calls Tryd.prog 77 #[v, .int .i64 x] w fun e w' => e = .returned (.int .i64 (placeN x l)) ∧ w' = w := by
  obtain ⟨ao, cap, rfl, hlc, hcm, -, -, hao⟩ := hr
  have hml : (l.length : Int) ≤ 9223372036854775807 := by unfold maxLen at hcm; omega
  obtain ⟨P, hP⟩ : ∃ P, P = placeN x l := ⟨_, rfl⟩
  rw [← hP]
  have HP := hide hP
  have HAO := hide hao
  clear hao hP hcm hlc
  go_enter Tryd.func77, Tryd.ntmps77
  go_wp2
  go_loop [8] (fun i => ∃ k : Nat, i = .int .i64 k ∧ k ≤ l.length ∧ Hid (∀ j, j < k → l.getD j 0 ≠ x)) (fun i => l.length - (intOf i).toNat)
  case atStart => exact ⟨0, rfl, Nat.zero_le _, fun j hj => by omega⟩
  case round =>
    obtain ⟨k, rfl, hk, hall⟩ := hrel
    by_cases hlt : k < l.length
    · rcases HAO.out with h0 | ⟨g, off, rfl, hc⟩
      · rw [h0] at hlt; simp at hlt
      have hck := hc k hlt
      clear hc
      obtain ⟨y, hy⟩ : ∃ y, y = l.getD k 0 := ⟨_, rfl⟩
      rw [← hy] at hck
      have HY := hide hy
      clear hy
      by_cases hin : x = y
      · have HN : Hid (P = (k : Int)) := hide (HP.out.trans (placeN_at hlt (by rw [← HY.out, hin]) hall.out))
        subst hin
        clear HP
        go_wp2
        go_ret
        rw [HN.out]
        exact ⟨rfl, rfl⟩
      · have hne : (x == y) = false := beq_eq_false_iff_ne.2 hin
        have HN := hide hin
        clear hin
        go_wp2
        go_round
        case rel =>
          refine ⟨k + 1, by go_num, by omega, fun j hj => ?_⟩
          by_cases e : j = k
          · rw [e, ← HY.out]; exact fun h => HN.out h.symm
          · exact hall.out j (by omega)
        case measure => simp [intOf]; omega
    · have HN : Hid (P = -1) := hide (HP.out.trans (placeN_none fun j hj => hall.out j (by omega)))
      clear HP
      go_wp2
      go_ret
      rw [HN.out]
      exact ⟨rfl, rfl⟩

/-- Delete, of numbers of one's own: nothing below their row is changed. -/
theorem deleteN_any (v : Value) (l : List Int) (B : Nat) (w : World) (ho : OwnI w B v l) (i j : Nat) (hij : i < j) (hj : j ≤ l.length) (I J : Int) (hI : I = i) (hJ : J = j) :
    Calls Tryd.prog 79 #[v, .int .i64 I, .int .i64 J] w fun e w' => ∃ v', e = .returned v' ∧ OwnI w' B v' (l.take i ++ l.drop j) ∧ Below B w w' := by
  subst hI
  subst hJ
  rcases ho.row with ⟨_, h2⟩ | ⟨g, cap, cur, rfl, hB, hlt, hg, hn, hm, hs, hc⟩
  · subst h2; simp at hj; omega
  · unfold maxLen at hm
    have hH := Lib.holds_of_ints (b := g) (off := 0) (n := l.length) (zs := l) (w := w) (Nat.le_refl _) (fun k hk => by rw [Nat.zero_add, cell_of_row w g k _ _ _ hg]; exact hc k hk) (fun k hk => by rw [Nat.zero_add]; exact frozen_of_row w g k _ _ hg)
    rw [List.take_length] at hH
    refine Calls.mono (Any.slices_Delete_int layM23 g 0 cap i j l w hH hn (by omega) (by omega) hj) ?_
    rintro e w' ⟨rfl, q, hw⟩
    rw [Lib.putRow_eq_setCells _ w g 0 _ _ q hH (by simp; omega)] at hw
    subst hw
    refine ⟨_, rfl, ?_, belowCells hB _ _ _ (below_drewN (Below.refl _ _) q)⟩
    have hlen : (l.take i ++ l.drop j).length = l.length - (j - i) := by simp; omega
    rw [← hlen]
    refine OwnI.ofRow hB (heap_setCells g _ _ _ _ cur (by rw [drewN_heap]; exact hg)) (by omega) (by unfold maxLen; omega) (by rw [layC_size]; exact hs) (fun k hk => ?_)
    rw [layC_get _ _ _ _ (by omega), if_pos (by simp at hk ⊢; omega), Nat.sub_zero, List.map_append, List.getElem?_append_left (by simpa using hk)]
    exact intCells_get _ k hk

end Go.Proofs.YtddhcohjmgdajabDoor

/- States, operations, lists of operations and of numbers that came in. -/
namespace Go.Proofs.YtddhcohjmgdajabDoor
open Go.RowKit Go.ChangeShapes

set_option maxRecDepth 100000 in
theorem cells_int : Tryd.prog.cellsOf 3 = 1 := by kernel_rfl

set_option maxRecDepth 100000 in
theorem cells_ints : Tryd.prog.cellsOf 96 = 1 := by kernel_rfl

set_option maxRecDepth 100000 in
theorem cells_bool : Tryd.prog.cellsOf 4 = 1 := by kernel_rfl

set_option maxRecDepth 100000 in
theorem cells_op : Tryd.prog.cellsOf 42 = 3 := by kernel_rfl

set_option maxRecDepth 100000 in
theorem i64_of_wf {n : Int} (h : (Lit.int .i64 n).wf = true) : I64 n := by
  simpa [I64, Lit.wf, IntKind.min, IntKind.max, IntKind.signed, IntKind.bits] using h

section
variable {H : Type} {enc : TypeId × Value → H} {w : World} {base fuel : Nat} {held : Bool}

set_option maxRecDepth 100000 in
/-- Numbers that came in. -/
theorem open_rdI {cs : List Value} {x : DataW H × List MemPlace} (h : DataW.trod enc Tryd.prog w base (fun _ => true) held fuel 96 cs = some x) : ∃ v l, cs = [v] ∧ RdI w v l := by
  rcases open_ints Tryd.underlying96 Tryd.underlying3 (by kernel_rfl) h with ⟨hcs, _⟩ | ⟨y, l, c, zs, hcs, _, hl, hm, hz, _, hcell, hwz⟩
  · exact ⟨_, [], hcs, RdI.nil _⟩
  · exact ⟨_, _, hcs, RdI.ofRow hl hm (by simpa using hz) hcell hwz⟩

set_option maxRecDepth 100000 in
/-- The cells of an operation. -/
theorem open_op_cells {cs : List Value} {x : DataW H × List MemPlace} (h : DataW.trod enc Tryd.prog w base (fun _ => true) held fuel 42 cs = some x) :
    ∃ (o : Opn), cs = [.int .i64 o.code, .int .i64 o.a, .int .i64 o.b] ∧ OpOk o := by
  obtain ⟨xs, n, _, _, hl, hxl, hf⟩ := DataW.trod_struct Tryd.underlying42 h
  rw [cells_op] at hl
  match xs, hxl, cs, hl with
  | [y0, y1, y2], _, [c0, c1, c2], _ =>
    have g0 := hf 0 _ rfl
    have g1 := hf 1 _ rfl
    have g2 := hf 2 _ rfl
    simp [cells_int] at g0 g1 g2
    obtain ⟨k, hk, _, wk⟩ := DataW.trod_int Tryd.underlying3 g0
    obtain ⟨a, ha, _, wa⟩ := DataW.trod_int Tryd.underlying3 g1
    obtain ⟨b, hb, _, wb⟩ := DataW.trod_int Tryd.underlying3 g2
    simp only [List.cons.injEq, and_true] at hk ha hb
    subst hk ha hb
    exact ⟨⟨k, a, b⟩, rfl, i64_of_wf wk, i64_of_wf wa, i64_of_wf wb⟩

set_option maxRecDepth 100000 in
/-- An operation that came in. -/
theorem open_op {r : Reach} {b0 : Nat} {v : Value} {d : DataW H} {p : List MemPlace} (hval : Value.okWide Tryd.prog w r b0 42 v) (h : DataW.Trod enc Tryd.prog w base (fun _ => true) held 42 v d p) : ∃ o, v = opV o ∧ OpOk o := by
  obtain ⟨cs, rfl, hsz⟩ := Go.WideShapes.okWide_struct Tryd.underlying42 hval
  obtain ⟨fuel, hf⟩ := h
  obtain ⟨o, hcs, hok⟩ := open_op_cells hf
  refine ⟨o, ?_, hok⟩
  simp [Value.cells] at hcs
  exact congrArg Value.agg (Array.ext' hcs)

end

/-- The slice value v reads, in the world w, as the operations l. -/
def RdO (w : World) (v : Value) (l : List Opn) : Prop :=
  ∃ ao cap, v = .slice ao l.length cap ∧ l.length ≤ cap ∧ cap ≤ maxLen ∧ (ao = none → cap = 0) ∧ (∀ o ∈ l, OpOk o) ∧
    (l = [] ∨ ∃ b off, ao = some ⟨b, off, none⟩ ∧ ∀ j, j < l.length → w.cell? ⟨b, off + j * 3, none⟩ = some (.int .i64 (l.getD j ⟨0, 0, 0⟩).code) ∧ w.cell? ⟨b, off + j * 3 + 1, none⟩ = some (.int .i64 (l.getD j ⟨0, 0, 0⟩).a) ∧ w.cell? ⟨b, off + j * 3 + 2, none⟩ = some (.int .i64 (l.getD j ⟨0, 0, 0⟩).b))

set_option maxRecDepth 100000 in
theorem RdO.below {w w' : World} {v : Value} {l : List Opn} (h : RdO w v l) {B : Nat} (hb : Below B w w') (hB : w.heap.size ≤ B) : RdO w' v l := by
  obtain ⟨ao, cap, h1, h2, h3, hn, hw, h4⟩ := h
  refine ⟨ao, cap, h1, h2, h3, hn, hw, ?_⟩
  rcases h4 with h4 | ⟨b, off, h5, h6⟩
  · exact .inl h4
  · refine .inr ⟨b, off, h5, fun j hj => ?_⟩
    obtain ⟨c0, c1, c2⟩ := h6 j hj
    have hlt : b < w.heap.size := World.block_lt_of_cell? w ⟨b, off + j * 3, none⟩ c0
    refine ⟨?_, ?_, ?_⟩
    · rw [hb.cell (p := ⟨b, off + j * 3, none⟩) (by exact Nat.lt_of_lt_of_le hlt hB)]; exact c0
    · rw [hb.cell (p := ⟨b, off + j * 3 + 1, none⟩) (by exact Nat.lt_of_lt_of_le hlt hB)]; exact c1
    · rw [hb.cell (p := ⟨b, off + j * 3 + 2, none⟩) (by exact Nat.lt_of_lt_of_le hlt hB)]; exact c2

set_option maxRecDepth 100000 in
theorem choose_ops {m : Nat} {p : Nat → Opn → Prop} (h : ∀ i, i < m → ∃ o, p i o) : ∃ L : List Opn, L.length = m ∧ ∀ i, i < m → p i (L.getD i ⟨0, 0, 0⟩) := by
  induction m with
  | zero => exact ⟨[], rfl, fun i hi => by omega⟩
  | succ m ih =>
    obtain ⟨L, hL, hp⟩ := ih (fun i hi => h i (by omega))
    obtain ⟨o, ho⟩ := h m (by omega)
    refine ⟨L ++ [o], by simp [hL], fun i hi => ?_⟩
    by_cases e : i < m
    · have e2 : (L ++ [o]).getD i ⟨0, 0, 0⟩ = L.getD i ⟨0, 0, 0⟩ := by simp [List.getD, List.getElem?_append_left (show i < L.length by omega)]
      rw [e2]
      exact hp i e
    · have e3 : i = L.length := by omega
      subst e3
      have e2 : (L ++ [o]).getD L.length ⟨0, 0, 0⟩ = o := by simp [List.getD]
      rw [e2, hL]
      exact ho

end Go.Proofs.YtddhcohjmgdajabDoor

