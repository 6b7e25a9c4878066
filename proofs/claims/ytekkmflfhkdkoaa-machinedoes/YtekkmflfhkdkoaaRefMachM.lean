/- The document's machine and the landed one, side by side: mathematics; few. -/
import Derived.Test.YtekkmflfhkdkoaaRefMachC
import Derived.Test.YtekkmflfhkdkoaaOpenMach
namespace Go.Proofs.Ytekkmflfhkdkoaa
open Go.RowKit Go.Maps

/-- A machine's cells, and its processes' steps, as lists. -/
def cellsL (M : Mc) : List Int := (List.range M.len).map fun i => M.c (i : Nat)

def stepsL (M : Mc) : List Int := (List.range M.procs.toNat).map fun i => M.s (i : Nat)

theorem cellsL_length (M : Mc) : (cellsL M).length = M.len := by simp [cellsL]

theorem stepsL_length (M : Mc) : (stepsL M).length = M.procs.toNat := by simp [stepsL]

theorem inM_procs (q : Int) (n : Int) : inM q (n.toNat : Int) = inM q n := by
  unfold inM
  congr 1
  apply propext
  omega

theorem getR_cells {M : Mc} {N : Nat} (h : OkM M N) (c : Int) : getR (cellsL M) c = M.c c := by
  unfold getR
  rw [cellsL_length]
  cases hi : inM c (M.len : Int) with
  | false => exact (h.c0 c hi).symm
  | true =>
    have hc : 0 ≤ c ∧ c < (M.len : Int) := of_decide_eq_true hi
    have hlt : c.toNat < M.len := by omega
    have e : ((c.toNat : Nat) : Int) = c := by omega
    simp [cellsL, List.getD, hlt, e]

theorem getR_steps {M : Mc} {N : Nat} (h : OkM M N) (q : Int) : getR (stepsL M) q = M.s q := by
  unfold getR
  rw [stepsL_length, inM_procs]
  cases hi : inM q M.procs with
  | false => exact (h.s0 q hi).symm
  | true =>
    have hc : 0 ≤ q ∧ q < M.procs := of_decide_eq_true hi
    have hlt : q.toNat < M.procs.toNat := by omega
    have e : ((q.toNat : Nat) : Int) = q := by omega
    simp [stepsL, List.getD, hlt, e]

theorem map_set_range (f : Int → Int) (n Q : Nat) (x : Int) : ((List.range n).map fun i => f (i : Nat)).set Q x = (List.range n).map fun i => putF f (Q : Int) x (i : Nat) := by
  apply List.ext_getElem (by simp)
  intro i h1 h2
  simp only [List.length_set, List.length_map, List.length_range] at h1
  rw [List.getElem_set]
  simp only [List.getElem_map, List.getElem_range]
  unfold putF
  by_cases e : Q = i
  · rw [if_pos e, if_pos (by omega)]
  · rw [if_neg e, if_neg (by omega)]

theorem stepR_steps {M : Mc} {N : Nat} (h : OkM M N) (hN : N ≤ 100000000000) (q : Int) : stepR (stepsL M) q = stepsL { M with s := stepM M q } := by
  unfold stepR
  rw [stepsL_length, inM_procs]
  show _ = (List.range M.procs.toNat).map fun i => stepM M q (i : Nat)
  unfold stepM
  cases hi : inM q M.procs with
  | false => rfl
  | true =>
    have hc : 0 ≤ q ∧ q < M.procs := of_decide_eq_true hi
    have hlt : q.toNat < M.procs.toNat := by omega
    have e : ((q.toNat : Nat) : Int) = q := by omega
    have hg : (stepsL M).getD q.toNat 0 = M.s q := by simp [stepsL, List.getD, hlt, e]
    have hs := h.s q
    have hw : wrap64 (M.s q + 1) = M.s q + 1 := by unfold wrap64; omega
    rw [if_pos rfl, if_pos rfl, hg, hw]
    have := map_set_range M.s M.procs.toNat q.toNat (M.s q + 1)
    rw [e] at this
    exact this

theorem putR_cells (M : Mc) (q c : Int) (g : Int → Int) : putR (cellsL M) c (g (M.c c)) = cellsL (accM M q c g) := by
  unfold putR
  rw [cellsL_length]
  show _ = (List.range M.len).map fun i => (if inM c M.len = true then putF M.c c (g (M.c c)) else M.c) (i : Nat)
  cases hi : inM c (M.len : Int) with
  | false => rfl
  | true =>
    have hc : 0 ≤ c ∧ c < (M.len : Int) := of_decide_eq_true hi
    have e : ((c.toNat : Nat) : Int) = c := by omega
    have := map_set_range M.c M.len c.toNat (g (M.c c))
    rw [e] at this
    exact this

theorem stepsL_acc (M : Mc) (q c : Int) (g : Int → Int) : stepsL (accM M q c g) = stepsL { M with s := stepM M q } := rfl

theorem cellsL_more {M : Mc} {N : Nat} (h : OkM M N) {n : Int} (hn : n ≤ 1000) : cellsL M ++ List.replicate n.toNat 0 = cellsL (cellsM M n) := by
  unfold cellsM
  by_cases h1 : 1 ≤ n
  · rw [if_pos ⟨h1, by omega⟩]
    show _ = (List.range (M.len + n.toNat)).map fun i => M.c (i : Nat)
    rw [List.range_add, List.map_append]
    congr 1
    rw [List.map_map]
    apply List.ext_getElem (by simp)
    intro i h1 h2
    simp only [List.getElem_replicate, List.getElem_map, List.getElem_range, Function.comp]
    exact (h.c0 _ (by unfold inM; simp; omega)).symm
  · rw [if_neg (by omega)]
    have : n.toNat = 0 := by omega
    rw [this, List.replicate_zero, List.append_nil]

theorem stepsL_cells (M : Mc) (n : Int) : stepsL (cellsM M n) = stepsL M := by
  unfold cellsM
  split <;> rfl

theorem stepsL_new (procs : Int) : stepsL (newM procs) = List.replicate procs.toNat 0 := by
  show (List.range procs.toNat).map (fun _ => (0 : Int)) = _
  apply List.ext_getElem (by simp)
  intro i h1 h2
  simp

/-- Few calls of few processes. -/
structure FewM (procs : Int) (l : List MOp) : Prop where
  procs : procs ≤ 100
  len : l.length ≤ 200
  cells : ∀ (i : Nat) (x : MOp), l[i]? = some x → x.kind = 0 → x.n ≤ 1000

set_option maxRecDepth 100000 in
set_option maxHeartbeats 1000000 in
theorem fewM_any (procs : Int) (v : Value) (l : List MOp) (w : World) (h : RdM w v l) :
    Calls Try.prog 8 #[.int .i64 procs, v] w fun e w' => ∃ F : Bool, e = .returned (.bool F) ∧ (F = true → FewM procs l) ∧ w' = w := by
  have H := hide h
  obtain ⟨ao, cap, rfl, hlc, hcm, -⟩ := h
  have hml : (l.length : Int) ≤ 9223372036854775807 := by unfold maxLen at hcm; omega
  clear hlc hcm
  go_enter Try.func8, Try.ntmps8
  by_cases hp : procs ≤ 100
  case neg =>
    go_wp2
    go_ret
    exact .inl ⟨rfl, rfl⟩
  by_cases hl : (l.length : Int) ≤ 200
  case neg =>
    go_wp2
    go_ret
    exact .inl ⟨rfl, rfl⟩
  have HP := hide (And.intro hp hl)
  go_wp2
  go_loopw [5] (fun vi wr => ∃ (i : Nat), vi = .int .i64 (i : Int) ∧ i ≤ l.length ∧ wr = w ∧ Hid (∀ j x, j < i → l[j]? = some x → x.kind = 0 → x.n ≤ 1000)) (fun vi _ => l.length - (intOf vi).toNat)
  case atStart => exact ⟨0, rfl, Nat.zero_le _, rfl, hide fun j x hj => by omega⟩
  case round =>
    obtain ⟨i, rfl, hi, rfl, HI⟩ := hrel
    by_cases hlt : i < l.length
    case neg =>
      have HE : Hid (i = l.length) := hide (by omega)
      go_wp2
      go_ret
      refine ⟨true, rfl, fun _ => ⟨HP.out.1, by have := HP.out.2; omega, fun j x hj => HI.out j x ?_ hj⟩, rfl⟩
      have := (List.getElem?_eq_some_iff.1 hj).1
      rw [HE.out]
      exact this
    obtain ⟨x, b, off, hx, hao, ho⟩ := H.out.at hlt
    subst hao
    have c0 := ho.c0
    have c3 := ho.c3
    obtain ⟨K, hK⟩ : ∃ K, K = x.kind := ⟨_, rfl⟩
    obtain ⟨n, hn⟩ : ∃ n, n = x.n := ⟨_, rfl⟩
    have HX := hide (And.intro hx (And.intro hK hn))
    rw [← hK] at c0
    rw [← hn] at c3
    have HLT := hide hlt
    clear hx hK hn ho
    have hnext : (K = 0 → n ≤ 1000) → Hid (∀ j x, j < i + 1 → l[j]? = some x → x.kind = 0 → x.n ≤ 1000) := fun h => hide fun j y hj hy hk => by
      by_cases e : j = i
      · subst e
        obtain rfl : x = y := Option.some.inj (HX.out.1.symm.trans hy)
        rw [← HX.out.2.2]
        exact h (HX.out.2.1.trans hk)
      · exact HI.out j y (by omega) hy hk
    by_cases hk : K = 0
    · subst hk
      by_cases hn : n ≤ 1000
      · have HN := hnext fun _ => hn
        clear hnext
        go_wp2
        go_roundw
        case rel => exact ⟨i + 1, by go_num, by have := HLT.out; omega, by first | rfl | trivial, HN⟩
        case measure => have := HLT.out; simp [intOf]; omega
      · clear hnext
        go_wp2
        go_ret
        exact .inl ⟨rfl, rfl⟩
    · have HN := hnext fun h => absurd h hk
      have hk' : (K == 0) = false := by simp [hk]
      clear hnext hk
      go_wp2
      go_roundw
      case rel => exact ⟨i + 1, by go_num, by have := HLT.out; omega, by first | rfl | trivial, HN⟩
      case measure => have := HLT.out; simp [intOf]; omega

end Go.Proofs.Ytekkmflfhkdkoaa
