/- Objects: what may be may be behind a step; what is sealed stays; moves leave a ledger's sum. -/
import Derived.Test.YtgmdhlchdjlgnaaObjsMath
namespace Go.Proofs.Ytgmdhlchdjlgnaa

theorem inBounds_iff (l : List Int) : InBounds l ↔ ∀ x ∈ l, -1099511627776 ≤ x ∧ x ≤ 1099511627776 := by
  unfold InBounds
  constructor
  · intro h x hx
    obtain ⟨j, hj, rfl⟩ := List.getElem_of_mem hx
    have := h j hj
    simpa [List.getD, hj] using this
  · intro h j hj
    have := h l[j] (List.getElem_mem hj)
    simpa [List.getD, hj] using this

theorem numsOk_list {kind : Int} {l : List Int} (h4 : kind ≠ 4) (h5 : kind ≠ 5) : NumsOk kind l ↔ l.length ≤ 64 ∧ (kind ≤ 1 → l.length = 1) ∧ InBounds l := by
  unfold NumsOk
  rw [if_neg h4, if_neg h5]

theorem numsOk_4 (l : List Int) : NumsOk 4 l ↔ l.length ≤ 128 ∧ Pairs (-1099511627776) (-1) l := by
  unfold NumsOk
  rw [if_pos rfl]
  exact pairsOk_iff _ _

theorem numsOk_5 (l : List Int) : NumsOk 5 l ↔ l.length ≤ 128 ∧ Pairs 0 (-1) l := by
  unfold NumsOk
  rw [if_neg (by decide), if_pos rfl]
  exact pairsOk_iff _ _

theorem cut_bounds (n : Int) : -1099511627776 ≤ cutZ n ∧ cutZ n ≤ 1099511627776 := cutZ_in n

/-- With another list of numbers a state may be as well. -/
theorem may_with {s : St} (h : MayS s) {L : List Int} (hL : NumsOk s.kind L) : MayS ⟨s.kind, L, s.shut, s.eng⟩ :=
  ⟨h.1, h.2.1, h.2.2.1, h.2.2.2.1, h.2.2.2.2.1, hL⟩

theorem one_may {s : St} (h : MayS s) (hk : s.kind ≤ 1) (o : Opn) : MayS (oneS s o).1 := by
  have h0 := h.2.2.2.1
  have one : ∀ x : Int, NumsOk s.kind [cutZ x] := fun x => (numsOk_list (by omega) (by omega)).2 ⟨by simp, fun _ => rfl, (inBounds_iff _).2 (fun y hy => by rw [List.mem_singleton.1 hy]; exact cutZ_in x)⟩
  unfold oneS
  split
  · exact may_with h (one _)
  split
  · exact may_with h (one _)
  split
  · exact h
  · exact h

theorem list_may {s : St} (h : MayS s) (hk : ¬ s.kind ≤ 1) (hk3 : s.kind ≤ 3) (o : Opn) : MayS (listS s o).1 := by
  have hn := (numsOk_list (by omega) (by omega)).1 h.2.2.2.2.2
  have hb := (inBounds_iff _).1 hn.2.2
  unfold listS
  split
  · split
    · exact h
    · refine may_with h ((numsOk_list (by omega) (by omega)).2 ⟨?_, fun e => absurd e hk, (inBounds_iff _).2 fun x hx => ?_⟩)
      · have := hn.1
        simp
        omega
      · rcases List.mem_append.1 hx with hx | hx
        · exact hb x hx
        · rw [List.mem_singleton.1 hx]; exact cutZ_in _
  split
  · split
    · exact h
    split
    · refine may_with h ((numsOk_list (by omega) (by omega)).2 ⟨?_, fun e => absurd e hk, (inBounds_iff _).2 fun x hx => hb x (List.mem_of_mem_drop hx)⟩)
      have := hn.1
      simp
      omega
    · refine may_with h ((numsOk_list (by omega) (by omega)).2 ⟨?_, fun e => absurd e hk, (inBounds_iff _).2 fun x hx => hb x (List.mem_of_mem_take hx)⟩)
      have := hn.1
      simp
      omega
  split
  · exact h
  · exact h

theorem with_ok {least : Int} {l : List Int} (hl : l.length ≤ 128) (hp : Pairs least (-1) l) {key n : Int} (hk0 : 0 ≤ key) (hk1 : key ≤ 255) (hn0 : least ≤ n) (hn1 : n ≤ 1099511627776) (hf : ¬ (findF key 0 l < 0 ∧ l.length = 128)) :
    (withF key n false l).length ≤ 128 ∧ Pairs least (-1) (withF key n false l) := by
  refine ⟨?_, withF_pairs key n least hn0 hn1 hk1 l (-1) hp (by omega)⟩
  rw [withF_len key n least l (-1) hp]
  have he := pairs_even hp
  rw [find_none] at hf
  split
  · rename_i h
    have : l.length ≠ 128 := fun e => hf ⟨h, e⟩
    omega
  · exact hl

theorem store_may {s : St} (h : MayS s) (hk : s.kind = 4) (o : Opn) : MayS (storeS s o).1 := by
  have hn := h.2.2.2.2.2
  rw [hk, numsOk_4] at hn
  unfold storeS
  split
  · exact h
  split
  · exact h
  split
  · refine may_with h ?_
    rw [hk, numsOk_4]
    refine ⟨?_, withoutF_pairs _ _ _ _ hn.2⟩
    have := withoutF_length o.a s.L
    omega
  split
  · split
    · exact h
    · refine may_with h ?_
      rw [hk, numsOk_4]
      exact with_ok hn.1 hn.2 (by omega) (by omega) (cutZ_in _).1 (cutZ_in _).2 (by assumption)
  · exact h

theorem has_bounds {l : List Int} (hp : Pairs 0 (-1) l) (key : Int) : 0 ≤ hasF key l ∧ hasF key l ≤ 1099511627776 := by
  rw [has_get]
  cases h : getP key l with
  | none => simp
  | some v =>
    have := getP_in hp h
    exact ⟨this.2.2.1, this.2.2.2⟩

/-- What a move that is done makes of a ledger. -/
theorem move_lists {l : List Int} (hl : l.length ≤ 128) (hp : Pairs 0 (-1) l) (fr dst b : Int) (hf0 : 0 ≤ fr) (hf1 : fr ≤ 255) (hd0 : 0 ≤ dst) (hd1 : dst ≤ 255) (hb : 0 ≤ b) (h2 : ¬ (findF fr 0 l < 0 ∨ hasF fr l < b)) (h3 : ¬ fr = dst)
    (h4 : ¬ ((findF dst 0 l < 0 ∧ l.length = 128) ∨ 1099511627776 < hasF dst l + b)) :
    (withF dst (hasF dst l + b) false (withF fr (hasF fr l - b) false l)).length ≤ 128 ∧
    Pairs 0 (-1) (withF dst (hasF dst l + b) false (withF fr (hasF fr l - b) false l)) ∧
    sumP (withF dst (hasF dst l + b) false (withF fr (hasF fr l - b) false l)) = sumP l := by
  have b1 := has_bounds hp fr
  have b2 := has_bounds hp dst
  have hg : getP fr l ≠ none := fun e => h2 (.inl ((find_none _ _).2 e))
  have hle : ¬ hasF fr l < b := fun e => h2 (.inr e)
  have p1 : Pairs 0 (-1) (withF fr (hasF fr l - b) false l) := withF_pairs _ _ _ (by omega) (by omega) hf1 _ _ hp (by omega)
  have l1 : (withF fr (hasF fr l - b) false l).length = l.length := by rw [withF_len _ _ _ _ _ hp, if_neg hg]
  have s1 := withF_sum fr (hasF fr l - b) 0 l (-1) hp
  have g1 : getP dst (withF fr (hasF fr l - b) false l) = getP dst l := by rw [withF_get _ _ _ _ _ hp, if_neg (fun e => h3 e.symm)]
  have l2 := withF_len dst (hasF dst l + b) 0 _ (-1) p1
  have s2 := withF_sum dst (hasF dst l + b) 0 _ (-1) p1
  rw [g1, l1] at l2
  rw [g1, s1, ← has_get, ← has_get] at s2
  refine ⟨?_, withF_pairs _ _ _ (by omega) (by omega) hd1 _ _ p1 (by omega), by rw [s2]; omega⟩
  rw [l2]
  have he := pairs_even hp
  split
  · rename_i h
    have : l.length ≠ 128 := fun e => h4 (.inl ⟨(find_none _ _).2 h, e⟩)
    omega
  · exact hl

theorem move_may {s : St} (h : MayS s) (hk : s.kind = 5) (o : Opn) : MayS (moveS s o).1 ∧ sumP (moveS s o).1.L = sumP s.L ∧ ((moveS s o).2 ≠ 1 → (moveS s o).1 = s) ∧ (moveS s o).1.kind = s.kind ∧ (moveS s o).1.shut = s.shut := by
  have hn := h.2.2.2.2.2
  rw [hk, numsOk_5] at hn
  unfold moveS
  split
  · exact ⟨h, rfl, fun _ => rfl, rfl, rfl⟩
  split
  · exact ⟨h, rfl, fun _ => rfl, rfl, rfl⟩
  split
  · exact ⟨h, rfl, fun _ => rfl, rfl, rfl⟩
  split
  · exact ⟨h, rfl, fun _ => rfl, rfl, rfl⟩
  · have := move_lists hn.1 hn.2 (o.a / 256) (o.a % 256) o.b (by omega) (by omega) (by omega) (by omega) (by omega) (by assumption) (by assumption) (by assumption)
    refine ⟨may_with h ?_, this.2.2, fun e => absurd rfl e, rfl, rfl⟩
    rw [hk, numsOk_5]
    exact ⟨this.1, this.2.1⟩

theorem ledger_may {s : St} (h : MayS s) (hk : s.kind = 5) (o : Opn) : MayS (ledgerS s o).1 := by
  have hn := h.2.2.2.2.2
  rw [hk, numsOk_5] at hn
  unfold ledgerS
  split
  · exact (move_may h hk o).1
  split
  · exact h
  split
  · exact h
  split
  · exact h
  split
  · exact h
  split
  · exact h
  · refine may_with h ?_
    rw [hk, numsOk_5]
    have b1 := has_bounds hn.2 o.a
    have b2 := cutZ_in o.b
    have b3 : 0 ≤ cutZ o.b := by
      unfold cutZ
      split
      · omega
      · split <;> omega
    have b4 : 0 ≤ cutZ (hasF o.a s.L + cutZ o.b) := by
      unfold cutZ
      split
      · have := b3; unfold cutZ at this; omega
      · split
        · omega
        · have := b3; unfold cutZ at this; omega
    exact with_ok hn.1 hn.2 (by omega) (by omega) b4 (cutZ_in _).2 (by assumption)

theorem one_kind (s : St) (o : Opn) : (oneS s o).1.kind = s.kind ∧ (oneS s o).1.shut = s.shut ∧ (oneS s o).1.eng = s.eng := by
  unfold oneS
  repeat' split
  all_goals exact ⟨rfl, rfl, rfl⟩

theorem list_kind (s : St) (o : Opn) : (listS s o).1.kind = s.kind ∧ (listS s o).1.shut = s.shut ∧ (listS s o).1.eng = s.eng := by
  unfold listS
  repeat' split
  all_goals exact ⟨rfl, rfl, rfl⟩

theorem store_kind (s : St) (o : Opn) : (storeS s o).1.kind = s.kind ∧ (storeS s o).1.shut = s.shut ∧ (storeS s o).1.eng = s.eng := by
  unfold storeS
  repeat' split
  all_goals exact ⟨rfl, rfl, rfl⟩

theorem ledger_kind (s : St) (o : Opn) : (ledgerS s o).1.kind = s.kind ∧ (ledgerS s o).1.shut = s.shut ∧ (ledgerS s o).1.eng = s.eng := by
  unfold ledgerS moveS
  repeat' split
  all_goals exact ⟨rfl, rfl, rfl⟩

theorem step_shut {s : St} (h : MayS s) (hs : s.shut = true) (o : Opn) : stepS s o = (s, -1125899906842624) := by
  unfold stepS
  rw [if_neg (fun e => e h), if_pos hs]

theorem step_seal {s : St} (h : MayS s) (hs : s.shut = false) (o : Opn) (hc : o.code = 10) : stepS s o = (⟨s.kind, s.L, true, if 0 ≤ o.a ∧ o.a ≤ 2 then o.a else s.eng⟩, 0) := by
  unfold stepS
  rw [if_neg (fun e => e h), if_neg (by simp [hs]), if_pos hc]

theorem step_not {s : St} (h : ¬ MayS s) (o : Opn) : stepS s o = (s, 0) := by
  unfold stepS
  rw [if_pos h]

theorem step_open {s : St} (h : MayS s) (hs : s.shut = false) (o : Opn) (hc : o.code ≠ 10) : stepS s o = if s.kind ≤ 1 then oneS s o else if s.kind ≤ 3 then listS s o else if s.kind = 4 then storeS s o else ledgerS s o := by
  unfold stepS
  rw [if_neg (fun e => e h), if_neg (by simp [hs]), if_neg hc]

theorem step_kind (s : St) (o : Opn) : (stepS s o).1.kind = s.kind := by
  unfold stepS
  split
  · rfl
  split
  · rfl
  split
  · rfl
  split
  · exact (one_kind s o).1
  split
  · exact (list_kind s o).1
  split
  · exact (store_kind s o).1
  · exact (ledger_kind s o).1

theorem step_shut' {s : St} (h : MayS s) (o : Opn) : (stepS s o).1.shut = (s.shut || decide (o.code = 10)) := by
  by_cases hs : s.shut = true
  · rw [step_shut h hs, hs]
    rfl
  · have hs' : s.shut = false := by simpa using hs
    by_cases hc : o.code = 10
    · rw [step_seal h hs' o hc, decide_eq_true hc]
      simp
    · rw [step_open h hs' o hc, decide_eq_false hc, hs']
      split
      · rw [(one_kind s o).2.1, hs']; rfl
      split
      · rw [(list_kind s o).2.1, hs']; rfl
      split
      · rw [(store_kind s o).2.1, hs']; rfl
      · rw [(ledger_kind s o).2.1, hs']; rfl

/-- What may be may be behind a step. -/
theorem step_may {s : St} (h : MayS s) (o : Opn) : MayS (stepS s o).1 := by
  by_cases hs : s.shut = true
  · rw [step_shut h hs]
    exact h
  · have hs' : s.shut = false := by simpa using hs
    by_cases hc : o.code = 10
    · rw [step_seal h hs' o hc]
      refine ⟨?_, ?_, (fun e => by cases e), h.2.2.2.1, h.2.2.2.2.1, h.2.2.2.2.2⟩
      · show 0 ≤ (if 0 ≤ o.a ∧ o.a ≤ 2 then o.a else s.eng)
        have := h.1
        split <;> omega
      · show (if 0 ≤ o.a ∧ o.a ≤ 2 then o.a else s.eng) ≤ 2
        have := h.2.1
        split <;> omega
    · rw [step_open h hs' o hc]
      have h0 := h.2.2.2.1
      have h5 := h.2.2.2.2.1
      split
      · exact one_may h (by assumption) o
      split
      · exact list_may h (by assumption) (by assumption) o
      split
      · exact store_may h (by assumption) o
      · exact ledger_may h (by omega) o

/-- A move leaves a ledger's sum; one that does not respond 1 changes nothing. -/
theorem step_move {s : St} (h : MayS s) (hk : s.kind = 5) (o : Opn) (hc : o.code = 9) : sumP (stepS s o).1.L = sumP s.L ∧ ((stepS s o).2 ≠ 1 → (stepS s o).1 = s) := by
  by_cases hs : s.shut = true
  · rw [step_shut h hs]
    exact ⟨rfl, fun _ => rfl⟩
  · have hs' : s.shut = false := by simpa using hs
    rw [step_open h hs' o (by omega), if_neg (by omega), if_neg (by omega), if_neg (by omega)]
    unfold ledgerS
    rw [if_pos hc]
    exact ⟨(move_may h hk o).2.1, (move_may h hk o).2.2.1⟩

end Go.Proofs.Ytgmdhlchdjlgnaa
