/- What changes a snapshot into a later one, over plain lists: told, and applied, it makes the later one. -/
import Derived.Test.YtgpdbboieokldaaPack3
import Derived.Test.YtgpdbboieokldaaSnapTake
namespace Go.Proofs.Ytgpdbboieokldaa

/-- Has the later table each process of the elder one? -/
def Covers (a b : List Ent) : Prop := ∀ x ∈ a, ∃ y ∈ b, y.proc = x.proc

instance (a b : List Ent) : Decidable (Covers a b) := by unfold Covers; infer_instance

def diffD (a b : Snap) : Delt × Int :=
  if ¬ MayN a ∨ ¬ MayN b ∨ a.st.kind ≠ b.st.kind then (zeroD, 1)
  else if b.idx < a.idx ∨ ¬ Covers a.tab b.tab then (zeroD, 15)
  else (⟨a.idx, b.idx, (preL a.st.L b.st.L : Nat), (sufL a.st.L b.st.L : Nat), midL a.st.L b.st.L, b.st.shut, b.st.eng, diffT a.tab b.tab⟩, 0)

/-- The snapshot that a delta makes, whether it may be or not. -/
def madeD (a : Snap) (d : Delt) : Snap := ⟨d.upto, ⟨a.st.kind, a.st.L.take d.ahead.toNat ++ (d.mid ++ a.st.L.drop (a.st.L.length - d.behind.toNat)), d.shut, d.eng⟩, d.tab.foldl noteL a.tab⟩

def applyD (a : Snap) (d : Delt) : Snap × Int :=
  if ¬ MayN a ∨ d.ahead < 0 ∨ d.behind < 0 ∨ (a.st.L.length : Int) < d.ahead + d.behind then (zeroN, 1)
  else if a.idx ≠ d.frm ∨ d.upto < d.frm then (zeroN, 15)
  else if MayN (madeD a d) then (madeD a d, 0) else (zeroN, 1)

theorem applyD_diff {a b : Snap} (h : (diffD a b).2 = 0) : applyD a (diffD a b).1 = (b, 0) := by
  unfold diffD at h ⊢
  by_cases h1 : ¬ MayN a ∨ ¬ MayN b ∨ a.st.kind ≠ b.st.kind
  · rw [if_pos h1] at h
    exact absurd h (by decide)
  rw [if_neg h1] at h ⊢
  by_cases h2 : b.idx < a.idx ∨ ¬ Covers a.tab b.tab
  · rw [if_pos h2] at h
    exact absurd h (by decide)
  rw [if_neg h2]
  have ha : MayN a := Classical.byContradiction fun h => h1 (.inl h)
  have hb : MayN b := Classical.byContradiction fun h => h1 (.inr (.inl h))
  have hk : a.st.kind = b.st.kind := Classical.byContradiction fun h => h1 (.inr (.inr h))
  have hc : Covers a.tab b.tab := Classical.byContradiction fun h => h2 (.inr h)
  have hs := sufL_le a.st.L b.st.L
  have hm : madeD a ⟨a.idx, b.idx, (preL a.st.L b.st.L : Nat), (sufL a.st.L b.st.L : Nat), midL a.st.L b.st.L, b.st.shut, b.st.eng, diffT a.tab b.tab⟩ = b := by
    unfold madeD
    simp only [Int.toNat_natCast]
    rw [diff_apply, diffT_apply ha.2.2.rises hb.2.2.rises hc, hk]
  unfold applyD
  rw [hm]
  simp only
  rw [if_neg, if_neg, if_pos hb]
  · rintro (h | h)
    · exact h rfl
    · exact h2 (.inl h)
  · rintro (h | h | h | h)
    · exact h ha
    · omega
    · omega
    · omega

theorem nums_in {s : St} (h : MayS s) : s.L.length ≤ 128 ∧ ∀ x ∈ s.L, -1099511627776 ≤ x ∧ x ≤ 1099511627776 := by
  obtain ⟨-, -, -, -, -, hn⟩ := h
  have pairs : ∀ {least : Int}, -1099511627776 ≤ least → PairsOk least s.L → s.L.length ≤ 128 ∧ ∀ x ∈ s.L, -1099511627776 ≤ x ∧ x ≤ 1099511627776 := fun hl hp => by
    obtain ⟨p1, p2, p3⟩ := hp
    refine ⟨p2, fun x hx => ?_⟩
    obtain ⟨j, hj, rfl⟩ := List.getElem_of_mem hx
    have e : s.L[j] = s.L.getD j 0 := by simp [List.getD, hj]
    rw [e]
    by_cases he : j % 2 = 0
    · obtain ⟨q1, q2, -⟩ := p3 j hj he
      omega
    · obtain ⟨-, -, -, q4, q5⟩ := p3 (j - 1) (by omega) (by omega)
      rw [show j - 1 + 1 = j by omega] at q4 q5
      omega
  unfold NumsOk at hn
  split at hn
  · exact pairs (Int.le_refl _) hn
  split at hn
  · exact pairs (by decide) hn
  · obtain ⟨q1, -, q3⟩ := hn
    refine ⟨by omega, fun x hx => ?_⟩
    obtain ⟨j, hj, rfl⟩ := List.getElem_of_mem hx
    have e : s.L[j] = s.L.getD j 0 := by simp [List.getD, hj]
    rw [e]
    exact q3 j hj

theorem rises_tabTo {t : List Ent} (hr : Rises t) (hm : ∀ e ∈ t, EntOk e) : TabOk t := by
  intro i hi
  have e1 : t.getD i zeroE = t[i] := by simp [List.getD, hi]
  refine ⟨by rw [e1]; exact hm _ (List.getElem_mem hi), fun h0 => ?_⟩
  have hi1 : i - 1 < t.length := by omega
  have e2 : t.getD (i - 1) zeroE = t[i - 1] := by simp [List.getD, hi1]
  rw [e1, e2]
  exact List.pairwise_iff_getElem.1 hr (i - 1) i hi1 hi (by omega)

theorem diffT_ok {a b : List Ent} (hb : TabOk b) : TabOk (diffT a b) :=
  rises_tabTo (List.Pairwise.filter _ hb.rises) (fun e he => hb.mem e (List.mem_filter.1 he).1)

/-- What is told may be. -/
theorem diffD_may {a b : Snap} (h : (diffD a b).2 = 0) : MayD (diffD a b).1 := by
  unfold diffD at h ⊢
  by_cases h1 : ¬ MayN a ∨ ¬ MayN b ∨ a.st.kind ≠ b.st.kind
  · rw [if_pos h1] at h
    exact absurd h (by decide)
  rw [if_neg h1] at h ⊢
  by_cases h2 : b.idx < a.idx ∨ ¬ Covers a.tab b.tab
  · rw [if_pos h2] at h
    exact absurd h (by decide)
  rw [if_neg h2]
  have ha : MayN a := Classical.byContradiction fun h => h1 (.inl h)
  have hb : MayN b := Classical.byContradiction fun h => h1 (.inr (.inl h))
  have hs := sufL_le a.st.L b.st.L
  obtain ⟨n1, n2⟩ := nums_in hb.2.1
  have hmem : ∀ x ∈ midL a.st.L b.st.L, x ∈ b.st.L := fun x hx => List.mem_of_mem_drop (List.mem_of_mem_take hx)
  have hlen : (midL a.st.L b.st.L).length ≤ b.st.L.length := by
    unfold midL
    rw [List.length_take, List.length_drop]
    omega
  refine ⟨ha.1, hb.1, ⟨by show (0 : Int) ≤ ((preL a.st.L b.st.L : Nat) : Int); omega, by show ((preL a.st.L b.st.L : Nat) : Int) < _; omega⟩, ⟨by show (0 : Int) ≤ ((sufL a.st.L b.st.L : Nat) : Int); omega, by show ((sufL a.st.L b.st.L : Nat) : Int) < _; omega⟩, Nat.le_trans hlen n1, fun x hx => n2 x (hmem x hx), ⟨hb.2.1.1, hb.2.1.2.1⟩, hb.2.1.2.2.1, diffT_ok hb.2.2⟩

/-- A delta to itself changes nothing. -/
theorem preL_self : ∀ a : List Int, preL a a = a.length
  | [] => rfl
  | x :: a => by rw [preL, if_pos rfl, preL_self a, List.length_cons]

theorem diffD_self {a : Snap} (h : MayN a) : diffD a a = (⟨a.idx, a.idx, (a.st.L.length : Nat), 0, [], a.st.shut, a.st.eng, []⟩, 0) := by
  unfold diffD
  rw [if_neg (by rintro (h1 | h1 | h1) <;> exact h1 (by first | exact h | rfl)), if_neg (by
    rintro (h1 | h1)
    · omega
    · exact h1 (fun x hx => ⟨x, hx, rfl⟩))]
  have e1 : sufL a.st.L a.st.L = 0 := by
    unfold sufL
    rw [preL_self, preL_self, List.drop_length]
    rfl
  have e2 : midL a.st.L a.st.L = [] := by
    unfold midL
    rw [preL_self, List.drop_length, List.take_nil]
  have e3 : diffT a.tab a.tab = [] := by
    unfold diffT
    rw [List.filter_eq_nil_iff]
    intro x hx
    simp [hx]
  rw [e1, e2, e3, preL_self]
  rfl

/-- Behind records each process that was noted is. -/
theorem takeN_covers : ∀ (l : List Rec) (s : Snap), (takeN s l).2 = 0 → Covers s.tab (takeN s l).1.tab
  | [], s, _ => fun x hx => ⟨x, hx, rfl⟩
  | r :: l, s, h => by
    rw [takeN] at h ⊢
    by_cases h1 : r.idx ≠ s.idx
    · rw [if_pos h1] at h
      exact absurd h (by decide)
    rw [if_neg h1] at h ⊢
    by_cases h2 : ¬ FitsR r
    · rw [if_pos h2] at h
      exact absurd h (by decide)
    rw [if_neg h2] at h ⊢
    intro x hx
    have ih := takeN_covers l (nextN s r) h
    by_cases hp : x.proc = r.proc
    · obtain ⟨y, hy, hyp⟩ := ih ⟨r.proc, r.seq, (stepO s.st r.op).2⟩ ((noteG_mem _ _ _ _).2 (.inl ⟨rfl, rfl⟩))
      exact ⟨y, hy, hyp.trans hp.symm⟩
    · exact ih x ((noteG_mem _ _ _ _).2 (.inr ⟨hx, hp⟩))

end Go.Proofs.Ytgpdbboieokldaa
