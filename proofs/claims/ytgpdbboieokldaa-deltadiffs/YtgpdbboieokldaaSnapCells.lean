/- copy and clear over elements of more than one cell. -/
import Derived.Lib.SliceRun
namespace Go.Proofs.Ytgpdbboieokldaa

theorem run_copy_many {P : Program} (w : World) (dT sT ty elem : TypeId) (k : Nat) (b o dLen dCap : Nat) (a : Addr) (sLen sCap : Nat) (cs : List Value)
    (hu : P.underlying dT = some (.slice elem)) (hs : (P.info? elem).map (·.size) = some k) (hn : cs.length = Nat.min sLen dLen * k)
    (hsrc : ∀ j v, cs[j]? = some v → w.cell? (a.add j) = some v) (hc : ∀ j, j < cs.length → (w.cell? ⟨b, o + j, none⟩).isSome = true) (hf : ∀ j, j < cs.length → w.frozen? ⟨b, o + j, none⟩ = false) (h1 : ∀ v ∈ cs, v.oneCell' = true) :
    (Builtin.copy_ #[dT, sT] ty #[.slice (some ⟨b, o, none⟩) dLen dCap, .slice (some a) sLen sCap]).run P w = .ok (goInt (Nat.min sLen dLen)) (w.setCells b o cs) := by
  have hl := run_loadCells_list (P := P) w a cs hsrc
  have hst := run_storeCells_cells (P := P) b o cs 0 w (by simpa using hc) (by simpa using hf) h1
  cases hq : P.info? elem with
  | none => simp [hq] at hs
  | some i =>
    have hi : i.size = k := by simpa [hq] using hs
    rw [hn] at hl
    simp [Builtin.copy_, run_underlying hu, Builtin.lenOf, Builtin.firstCells, sizeOf, typeInfo, hq, hi, hl, hst]

/-- The zero cells of so many elements. -/
def zeros3 : Nat → List Value
  | 0 => []
  | n + 1 => .int .i64 0 :: .int .i64 0 :: .int .i64 0 :: zeros3 n

theorem zeros3_length : ∀ n, (zeros3 n).length = n * 3
  | 0 => rfl
  | n + 1 => by rw [zeros3, List.length_cons, List.length_cons, List.length_cons, zeros3_length n]; omega

theorem zeros3_mem : ∀ n, ∀ v ∈ zeros3 n, v = .int .i64 0
  | 0, v, h => by simp [zeros3] at h
  | n + 1, v, h => by
    rw [zeros3, List.mem_cons, List.mem_cons, List.mem_cons] at h
    rcases h with h | h | h | h
    · exact h
    · exact h
    · exact h
    · exact zeros3_mem n v h

theorem zeroCells3 (n : Nat) : (Builtin.zeroCells (Value.agg #[.int .i64 0, .int .i64 0, .int .i64 0]).cells n).toList = zeros3 n := by
  have hsz : (Value.agg #[.int .i64 0, .int .i64 0, .int .i64 0]).cells = #[.int .i64 0, .int .i64 0, .int .i64 0] := by rfl
  rw [hsz]
  apply List.ext_getElem?
  intro i
  by_cases h : i < n * 3
  · have h2 : i < (zeros3 n).length := by rw [zeros3_length]; exact h
    have h3 : (zeros3 n)[i]? = some (.int .i64 0) := by
      rw [List.getElem?_eq_getElem h2, zeros3_mem n _ (List.getElem_mem h2)]
    rw [h3]
    have hm : i % 3 = 0 ∨ i % 3 = 1 ∨ i % 3 = 2 := by omega
    simp only [Builtin.zeroCells, Array.getElem?_toList, Array.getElem?_map]
    have h4 : (Array.range (n * (#[Value.int .i64 0, .int .i64 0, .int .i64 0] : Array Value).size))[i]? = some i := by simp [h]
    rw [h4]
    have h5 : (#[Value.int .i64 0, .int .i64 0, .int .i64 0] : Array Value).size = 3 := rfl
    rw [h5]
    rcases hm with e | e | e <;> rw [Option.map_some, e] <;> rfl
  · rw [List.getElem?_eq_none (by simp [Builtin.zeroCells]; omega), List.getElem?_eq_none (by rw [zeros3_length]; omega)]

theorem run_clear_three {P : Program} (w : World) (t e ty : TypeId) (ht : P.underlying t = some (.slice e)) (hv : ∀ w, (zeroValue e).run P w = .ok (.agg #[.int .i64 0, .int .i64 0, .int .i64 0]) w) (b o n c : Nat) (hn : 0 < n)
    (hc : ∀ j, j < n * 3 → (w.cell? ⟨b, o + j, none⟩).isSome = true) (hf : ∀ j, j < n * 3 → w.frozen? ⟨b, o + j, none⟩ = false) :
    (Builtin.clear_ #[t] ty #[.slice (some ⟨b, o, none⟩) n c]).run P w = .ok (.tuple #[]) (w.setCells b o (zeros3 n)) := by
  have hst := run_storeCells_cells (P := P) b o (zeros3 n) 0 w (by rw [zeros3_length]; simpa using hc) (by rw [zeros3_length]; simpa using hf) (by intro v hv'; rw [zeros3_mem n v hv']; rfl)
  simp only [Nat.add_zero] at hst
  obtain ⟨m, rfl⟩ : ∃ m, n = m + 1 := ⟨n - 1, by omega⟩
  simp [Builtin.clear_, run_underlying ht, hv, zeroCells3, hst]

theorem run_clear_no {P : Program} (w : World) (t e ty : TypeId) (ht : P.underlying t = some (.slice e)) (a : Option Addr) (c : Nat) :
    (Builtin.clear_ #[t] ty #[.slice a 0 c]).run P w = .ok (.tuple #[]) w := by
  cases a <;> simp [Builtin.clear_, run_underlying ht]

end Go.Proofs.Ytgpdbboieokldaa
