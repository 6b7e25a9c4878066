/- Records of one process that goes on by one: how long their block is. -/
import Derived.Test.YtgmdhlchdjlgnaaBlockAwake
namespace Go.Proofs.Ytgmdhlchdjlgnaa

def shortR (first proc : Int) (i : Nat) : Rec := ⟨first + i, proc, 1 + i, ⟨0, 0, 0⟩, 0⟩

def shortL (first proc : Int) : Nat → List Rec
  | 0 => []
  | n + 1 => shortL first proc n ++ [shortR first proc n]

theorem shortL_length (first proc : Int) : ∀ n, (shortL first proc n).length = n
  | 0 => rfl
  | n + 1 => by rw [shortL, List.length_append, shortL_length first proc n]; rfl

theorem shortR_fits {first proc : Int} (h0 : 0 ≤ proc) (h1 : proc ≤ 64) (h2 : 0 ≤ first) (h3 : first ≤ 1000) {i : Nat} (hi : i ≤ 200) : FitsR (shortR first proc i) := by
  have ho : FitsO ⟨0, 0, 0⟩ := by decide
  exact ⟨ho, by show 0 ≤ first + i; omega, by show first + i < 4611686018427387904; omega, by show (0 : Int) ≤ 1 + i; omega, by show (1 : Int) + i < 4611686018427387904; omega, h0, h1, by show (-1125899906842624 : Int) ≤ 0; decide, by show (0 : Int) ≤ 1125899906842624; decide⟩

theorem shortL_fits {first proc : Int} (h0 : 0 ≤ proc) (h1 : proc ≤ 64) (h2 : 0 ≤ first) (h3 : first ≤ 1000) : ∀ n, n ≤ 200 → ∀ r ∈ shortL first proc n, FitsR r
  | 0, _, r, h => by simp [shortL] at h
  | n + 1, hn, r, h => by
    rw [shortL] at h
    rcases List.mem_append.1 h with h | h
    · exact shortL_fits h0 h1 h2 h3 n (by omega) r h
    · simp only [List.mem_singleton] at h
      rw [h]
      exact shortR_fits h0 h1 h2 h3 (by omega)

theorem shortL_chain (first proc : Int) : ∀ n, chainR first (shortL first proc n)
  | 0 => trivial
  | n + 1 => by
    rw [shortL, chain_snoc, shortL_length]
    exact ⟨shortL_chain first proc n, rfl⟩

theorem shortL_head (first proc : Int) : ∀ n, ((shortL first proc (n + 1)).headD zeroR).idx = first
  | 0 => by show first + ((0 : Nat) : Int) = first; simp
  | n + 1 => by
    have ih := shortL_head first proc n
    rw [shortL]
    have hne : shortL first proc (n + 1) ≠ [] := fun e => by
      have := congrArg List.length e
      rw [shortL_length] at this
      simp at this
    obtain ⟨r, t, hrt⟩ := List.exists_cons_of_ne_nil hne
    rw [hrt] at ih ⊢
    exact ih

theorem shortL_fitsB {first proc : Int} (h0 : 0 ≤ proc) (h1 : proc ≤ 64) (h2 : 0 ≤ first) (h3 : first ≤ 1000) {n : Nat} (hn : 1 ≤ n) (hn2 : n ≤ 200) : FitsB (shortL first proc n) := by
  obtain ⟨m, rfl⟩ : ∃ m, n = m + 1 := ⟨n - 1, by omega⟩
  refine ⟨by rw [shortL_length]; omega, by rw [shortL_length]; omega, shortL_fits h0 h1 h2 h3 _ hn2, ?_⟩
  rw [shortL_head]
  exact shortL_chain first proc (m + 1)

theorem shortL_last (first proc : Int) : ∀ n, lastSeq (shortL first proc n) proc = n
  | 0 => rfl
  | n + 1 => by
    rw [shortL, lastSeq_snoc, if_pos (show (shortR first proc n).proc = proc from rfl)]
    show (1 : Int) + n = ((n + 1 : Nat) : Int)
    omega

theorem short_one {first proc : Int} (h0 : 0 ≤ proc) (h1 : proc ≤ 64) (n : Nat) : (encOne (shortL first proc n) (shortR first proc n)).length = 6 := by
  have hd : (shortR first proc n).seq - lastSeq (shortL first proc n) (shortR first proc n).proc = 1 := by
    show (1 : Int) + n - lastSeq (shortL first proc n) proc = 1
    rw [shortL_last]
    omega
  unfold encOne
  rw [hd]
  have z1 : Lib.zigzag 1 = 2 := rfl
  have z0 : Lib.zigzag 0 = 0 := rfl
  show (Lib.uvarint proc.toNat ++ (Lib.uvarint (Lib.zigzag 1) ++ (putOpL ⟨0, 0, 0⟩ ++ Lib.uvarint (Lib.zigzag 0)))).length = 6
  unfold putOpL
  rw [z1, z0, Lib.uvarint_small (show proc.toNat < 128 by omega), Lib.uvarint_small (by decide), Lib.uvarint_small (show (0 : Int).toNat < 128 by decide), Lib.uvarint_small (show (0 : Nat) < 128 by decide)]
  rfl

theorem short_all {first proc : Int} (h0 : 0 ≤ proc) (h1 : proc ≤ 64) : ∀ n, (encRs [] (shortL first proc n)).length = 6 * n
  | 0 => rfl
  | n + 1 => by
    rw [shortL, encRs_app, List.length_append, short_all h0 h1 n]
    simp only [List.nil_append, encRs, List.append_nil]
    rw [short_one h0 h1 n]
    omega

theorem short_take (first proc : Int) : ∀ n, (shortL first proc (n + 1)).take 1 = shortL first proc 1
  | 0 => rfl
  | n + 1 => by
    rw [shortL, List.take_append_of_le_length (by rw [shortL_length]; omega), short_take first proc n]

theorem short_len {first proc : Int} (h0 : 0 ≤ proc) (h1 : proc ≤ 64) {n : Nat} (hn : 1 ≤ n) (hn2 : n ≤ 200) :
    (encB (shortL first proc n)).length = (encB ((shortL first proc n).take 1)).length + (if 127 < n then 1 else 0) + 6 * (n - 1) := by
  obtain ⟨m, rfl⟩ : ∃ m, n = m + 1 := ⟨n - 1, by omega⟩
  rw [short_take]
  have e : ∀ k, (encB (shortL first proc (k + 1))).length = (Lib.uvarint first.toNat).length + ((Lib.uvarint (k + 1)).length + 6 * (k + 1)) := fun k => by
    unfold encB
    rw [List.length_append, List.length_append, short_all h0 h1, shortL_head, shortL_length]
  rw [e m, show (1 : Nat) = 0 + 1 from rfl, e 0]
  have u1 : (Lib.uvarint (0 + 1)).length = 1 := by rw [Lib.uvarint_small (by decide)]; rfl
  rw [u1]
  by_cases hb : 127 < m + 1
  · rw [if_pos (by omega)]
    have u2 : (Lib.uvarint (m + 1)).length = 2 := by
      rw [Lib.uvarint_big (by omega), Lib.uvarint_small (by omega)]
      rfl
    rw [u2]
    omega
  · rw [if_neg (by omega)]
    have u2 : (Lib.uvarint (m + 1)).length = 1 := by rw [Lib.uvarint_small (by omega)]; rfl
    rw [u2]
    omega

end Go.Proofs.Ytgmdhlchdjlgnaa
