/- What is decoded, or recovered, has a kind and a first index that fit their type. -/
import Derived.Test.YtddhcohjmgdajaaDoorRef08L
namespace Go.Proofs.YtddhcohjmgdajaaDoor
open Go.RowKit

theorem decS8_i64 (b : List UInt8) : I64 (decS8 b).1.kind ∧ I64 (decS8 b).1.first := by
  have hz : I64 zeroG.kind ∧ I64 zeroG.first := ⟨⟨by decide, by decide⟩, ⟨by decide, by decide⟩⟩
  by_cases hw : (wholeF b).2.2 = 0
  case neg =>
    rw [decS8_err hw]
    exact hz
  rw [decS8_ok hw]
  generalize (wholeF b).1 = L at *
  by_cases h2 : 2 ≤ L.length
  case neg =>
    unfold decL8
    rw [if_pos (by omega)]
    exact hz
  rw [decL8_walk h2]
  cases hrd : readH ((L.take (L.length - 1)).headD []) with
  | error x => exact hz
  | ok t =>
    obtain ⟨v, k, f⟩ := t
    obtain ⟨_, _, _, hk, hf⟩ := readH_sound hrd
    simp only
    split
    · exact hz
    split
    · exact ⟨⟨by show -9223372036854775808 ≤ (k : Int); omega, by show (k : Int) ≤ 9223372036854775807; omega⟩, ⟨by show -9223372036854775808 ≤ (f : Int); omega, by show (f : Int) ≤ 9223372036854775807; omega⟩⟩
    · exact hz

theorem recS8_i64 (b : List UInt8) : I64 (recS8 b).1.kind ∧ I64 (recS8 b).1.first := by
  have hz : I64 zeroG.kind ∧ I64 zeroG.first := ⟨⟨by decide, by decide⟩, ⟨by decide, by decide⟩⟩
  by_cases hn : (wholeF b).1 = []
  · unfold recS8 recL8
    rw [if_pos hn]
    exact hz
  rw [recS8_walk hn]
  cases hrd : readH ((wholeF b).1.headD []) with
  | error x => exact hz
  | ok t =>
    obtain ⟨v, k, f⟩ := t
    obtain ⟨_, _, _, hk, hf⟩ := readH_sound hrd
    exact ⟨⟨by show -9223372036854775808 ≤ (k : Int); omega, by show (k : Int) ≤ 9223372036854775807; omega⟩, ⟨by show -9223372036854775808 ≤ (f : Int); omega, by show (f : Int) ≤ 9223372036854775807; omega⟩⟩

theorem encS8_len {v : Nat} (h1 : 1 ≤ v) (h3 : v ≤ 3) {s : Seg} (hm : MayG s) (hl : s.recs.length ≤ 100) : (encS8 v s).length ≤ 90000 := by
  obtain ⟨⟨k0, k1, f0, f1⟩, hr⟩ := hm
  have hb := blocks_len h1 h3 hr.2.1
  have hbn := blocksS_len (v := v) s.recs
  have hh := headS_len (v := v) (k := s.kind.toNat) (f := s.first.toNat) h3 (by omega) (by omega)
  have hfh := frameOf_len6 (d := headS v s.kind.toNat s.first.toNat) (by omega)
  have hfb := framesOf_len _ hb
  have hof := offs_len (blocksS v s.recs) (frameOf (headS v s.kind.toNat s.first.toNat)).length (by omega) (fun d hd => by have := hb d hd; omega)
  have q : (Lib.uvarint (blocksS v s.recs).length).length ≤ 10 := uv10' (by omega)
  have hft : (footS (headS v s.kind.toNat s.first.toNat) (blocksS v s.recs)).length ≤ 100 := by
    unfold footS
    rw [List.length_append]
    omega
  have hff := frameOf_len6 (d := footS (headS v s.kind.toNat s.first.toNat) (blocksS v s.recs)) (by omega)
  unfold encS8 partsS
  rw [framesOf_cons, framesOf_app, List.length_append, List.length_append]
  have e : (framesOf [footS (headS v s.kind.toNat s.first.toNat) (blocksS v s.recs)]).length = (frameOf (footS (headS v s.kind.toNat s.first.toNat) (blocksS v s.recs))).length := by simp [framesOf]
  rw [e]
  omega

/-- What is encoded, or not. -/
theorem seg_cases (v : Int) (s : Seg) : (segErr v s ≠ 0 ∧ segL v s = []) ∨ ∃ n : Nat, v = (n : Int) ∧ 1 ≤ n ∧ n ≤ 3 ∧ MayG s ∧ segErr v s = 0 ∧ segL v s = encS8 n s := by
  unfold segErr segL
  by_cases hv : 1 ≤ v ∧ v ≤ 3
  · rw [if_pos hv, if_pos hv]
    by_cases hm : MayG s
    · rw [if_pos hm, if_pos hm]
      refine .inr ⟨v.toNat, by omega, by omega, by omega, hm, rfl, rfl⟩
    · rw [if_neg hm, if_neg hm]
      exact .inl ⟨by decide, rfl⟩
  · rw [if_neg hv, if_neg hv]
    exact .inl ⟨by decide, rfl⟩

theorem upg_i64 {v : Nat} {s : Seg} (h : MayG s) : I64 (upgG v s).kind ∧ I64 (upgG v s).first := by
  obtain ⟨⟨k0, k1, f0, f1⟩, _⟩ := h
  exact ⟨⟨by show -9223372036854775808 ≤ s.kind; omega, by show s.kind ≤ 9223372036854775807; omega⟩, ⟨by show -9223372036854775808 ≤ s.first; omega, by show s.first ≤ 9223372036854775807; omega⟩⟩

/-- A cut of bytes at their end. -/
theorem cutB_front (w : World) (ao : Option Addr) (l : List UInt8) (cap : Nat) (hr : Rd w (.slice ao l.length cap) l) (n : Nat) (hn : n ≤ l.length) :
    Rd w (.slice ao n cap) (l.take n) ∧ ∀ i : Int, i = (n : Int) → ∀ W, (Instr.sliceAt 26 (.slice ao l.length cap) none (some (.int .i64 i)) none).run Tryd.prog W = .ok (.slice ao n cap) W := by
  have hlc : l.length ≤ cap := by
    obtain ⟨a, c, e, h, -⟩ := hr
    simp only [Value.slice.injEq] at e
    omega
  have e : (if cap = 0 then ao else ao.map (·.add (0 * 1))) = ao := by
    split
    · rfl
    · cases ao <;> simp [Addr.add]
  have h := hr.mid 0 n cap (by omega) hn (by omega) (Nat.le_refl _)
  unfold sliced at h
  rw [e, List.drop_zero, Nat.sub_zero, Nat.sub_zero] at h
  refine ⟨h, fun i hi W => ?_⟩
  subst hi
  rw [run_sliceAt_slice W 26 _ _ _ _ under_bytes, run_slice_h W 26 ao l.length cap under_bytes .i64 (n : Int) (by omega) (by omega), elem_bytes, size_u8]
  show Result.ok (sliced ao 0 n cap 1) W = _
  unfold sliced
  rw [e, Nat.sub_zero, Nat.sub_zero]

/-- Where a rising row passes a bound. -/
theorem exists_q (f : Nat → Nat) (c : Nat) (h0 : f 0 ≤ c) : ∀ N : Nat, ∃ q, q ≤ N ∧ f q ≤ c ∧ (q = N ∨ c < f (q + 1))
  | 0 => ⟨0, Nat.le_refl _, h0, .inl rfl⟩
  | N + 1 => by
    obtain ⟨q, h1, h2, h3⟩ := exists_q f c h0 N
    rcases h3 with h3 | h3
    · by_cases h4 : f (N + 1) ≤ c
      · exact ⟨N + 1, Nat.le_refl _, h4, .inl rfl⟩
      · exact ⟨q, by omega, h2, .inr (by rw [h3]; omega)⟩
    · exact ⟨q, by omega, h2, .inr h3⟩

/-- How many bytes the head and some blocks have. -/
def atS (v : Nat) (s : Seg) (q : Nat) : Nat := (framesOf (headS v s.kind.toNat s.first.toNat :: (blocksS v s.recs).take q)).length

theorem atS_zero (v : Nat) (s : Seg) : atS v s 0 = (frameOf (headS v s.kind.toNat s.first.toNat)).length := by
  unfold atS
  simp [framesOf]

theorem atS_succ (v : Nat) (s : Seg) (q : Nat) (hq : q < (blocksS v s.recs).length) : atS v s (q + 1) = atS v s q + (frameOf ((blocksS v s.recs).getD q [])).length := by
  unfold atS
  rw [takeL_snoc hq, framesOf_cons, framesOf_cons, framesOf_app, List.length_append, List.length_append, List.length_append]
  have e : (framesOf [(blocksS v s.recs).getD q []]).length = (frameOf ((blocksS v s.recs).getD q [])).length := by simp [framesOf]
  rw [e]
  omega

/-- The body of one block. -/
theorem body_one {v : Nat} (h1 : 1 ≤ v) (h3 : v ≤ 3) {s : Seg} (hm : MayG s) (q : Nat) (hq : q < (blocksS v s.recs).length) :
    bodyErr v ((s.recs.drop (16 * q)).take 16) = 0 ∧ bodyL v ((s.recs.drop (16 * q)).take 16) = frameOf ((blocksS v s.recs).getD q []) := by
  obtain ⟨_, hr⟩ := hm
  have hbn := blocksS_len (v := v) s.recs
  have hmid := recsOk_mid hr (16 * q) 16 (by omega)
  have hcl : ((s.recs.drop (16 * q)).take 16).length ≤ 16 := by rw [List.length_take]; omega
  have hc1 : 1 ≤ ((s.recs.drop (16 * q)).take 16).length := by rw [List.length_take, List.length_drop]; omega
  rw [blocks_get v s.recs q hq]
  generalize (s.recs.drop (16 * q)).take 16 = c at *
  have hne : c ≠ [] := fun e => by rw [e] at hc1; simp at hc1
  have hix : (c.headD zeroR).idx = s.first + ((16 * q : Nat) : Int) := by
    cases c with
    | nil => exact absurd rfl hne
    | cons r t => exact hmid.2.2.1
  have hok : RecsOk c (c.headD zeroR).idx := by rw [hix]; exact hmid
  have hv : 1 ≤ (v : Int) ∧ (v : Int) ≤ 3 := ⟨by omega, by omega⟩
  unfold bodyErr bodyL
  rw [if_pos hv, if_pos hv, if_pos hok, if_pos hok, Int.toNat_natCast]
  refine ⟨rfl, ?_⟩
  unfold blocksS
  rw [chunks_few hne hcl]
  simp [framesOf]

theorem atS_le {v : Nat} {s : Seg} (q : Nat) : atS v s q ≤ (encS8 v s).length := by
  unfold atS encS8 partsS
  rw [framesOf_cons, framesOf_cons, framesOf_app, List.length_append, List.length_append, List.length_append]
  have := framesOf_take (blocksS v s.recs) q
  omega

end Go.Proofs.YtddhcohjmgdajaaDoor
