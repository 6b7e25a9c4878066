import Derived.Test.YtgpdbboieokldaaGreatPack1
import Derived.Test.YtgpdbboieokldaaGreatPack2
import Derived.Test.YtgpdbboieokldaaGreatPack3
/- Objects: where a key's pair stands; what the landed step makes of a state. -/
namespace Go.Proofs.YtgpdbboieokldaaGreat

/-- Where a key's pair stands, or would stand. -/
def placeP (key : Int) : List Int → Nat
  | a :: _ :: r => if key ≤ a then 0 else placeP key r + 2
  | _ => 0

/-- A key has a pair. -/
def hitP (key : Int) (l : List Int) : Bool := (getP key l).isSome

theorem placeP_le (key : Int) : ∀ (l : List Int), l.length % 2 = 0 → placeP key l ≤ l.length ∧ placeP key l % 2 = 0
  | [], _ => ⟨Nat.le_refl _, rfl⟩
  | [_], h => by simp at h
  | a :: b :: r, h => by
    have ih := placeP_le key r (by simp at h; omega)
    unfold placeP
    split
    · simp
    · simp
      omega

/-- Ahead of the place all keys are less. -/
theorem placeP_drop (key : Int) : ∀ (l : List Int) (k : Nat), l.length % 2 = 0 → k % 2 = 0 → k ≤ l.length → (∀ j, j < k → j % 2 = 0 → l.getD j 0 < key) → placeP key l = k + placeP key (l.drop k)
  | [], k, _, _, hk, _ => by
    have : k = 0 := by simpa using hk
    subst this
    rfl
  | [_], _, h, _, _, _ => by simp at h
  | a :: b :: r, k, h, hk2, hk, hall => by
    by_cases h0 : k = 0
    · subst h0
      simp
    · obtain ⟨j, rfl⟩ : ∃ j, k = j + 2 := ⟨k - 2, by omega⟩
      have h1 := hall 0 (by omega) rfl
      have h1' : a < key := h1
      have ih := placeP_drop key r j (by simp at h; omega) (by omega) (by simp at hk; omega) (fun i hi hi2 => by
        have := hall (i + 2) (by omega) (by omega)
        exact this)
      conv => lhs; unfold placeP
      rw [if_neg (by omega), ih]
      show j + placeP key (r.drop j) + 2 = j + 2 + placeP key (r.drop j)
      omega

theorem placeP_stop (key : Int) (l : List Int) (k : Nat) (hk : k + 1 < l.length) (h : key ≤ l.getD k 0) : placeP key (l.drop k) = 0 := by
  rw [drop_pair l k hk, placeP, if_pos h]

theorem placeP_hit (key least : Int) : ∀ (l : List Int) (lo : Int), Pairs least lo l → hitP key l = decide (placeP key l < l.length ∧ l.getD (placeP key l) 0 = key) ∧ (hitP key l = true → getP key l = some (l.getD (placeP key l + 1) 0) ∧ placeP key l + 1 < l.length)
  | [], lo, _ => by simp [hitP, getP, placeP]
  | [_], lo, h => by simp [Pairs] at h
  | a :: b :: r, lo, h => by
    have hg := getP_above (least := least) (key := key) (l := r) (lo := a)
    unfold Pairs at h
    have ih := placeP_hit key least r a h.2.2.2.2
    by_cases h1 : key ≤ a
    · have e : placeP key (a :: b :: r) = 0 := by unfold placeP; rw [if_pos h1]
      rw [e]
      by_cases h2 : a = key
      · have e2 : getP key (a :: b :: r) = some b := by rw [getP_cons, if_pos h2]
        unfold hitP
        rw [e2]
        simp [h2]
      · have e2 : getP key (a :: b :: r) = none := by rw [getP_cons, if_neg h2, hg h.2.2.2.2 h1]
        unfold hitP
        rw [e2]
        simp [h2]
    · have e : placeP key (a :: b :: r) = placeP key r + 2 := by rw [placeP, if_neg h1]
      have e2 : getP key (a :: b :: r) = getP key r := by rw [getP_cons, if_neg (by omega)]
      have e3 : hitP key (a :: b :: r) = hitP key r := by unfold hitP; rw [e2]
      rw [e, e2, e3]
      refine ⟨?_, fun hh => ?_⟩
      · rw [ih.1]
        have e4 : (a :: b :: r).getD (placeP key r + 2) 0 = r.getD (placeP key r) 0 := rfl
        rw [e4]
        apply decide_eq_decide.2
        simp
      · have := ih.2 hh
        refine ⟨this.1, ?_⟩
        simp
        omega

theorem withF_insert (key n least : Int) : ∀ (l : List Int) (lo : Int), Pairs least lo l → hitP key l = false → withF key n false l = l.take (placeP key l) ++ ([key, n] ++ l.drop (placeP key l))
  | [], lo, _, _ => by simp [withF, placeP]
  | [_], lo, h, _ => by simp [Pairs] at h
  | a :: b :: r, lo, h, hm => by
    rw [withF_cons key n least a b r lo h]
    unfold Pairs at h
    have ih := withF_insert key n least r a h.2.2.2.2
    unfold hitP at hm
    rw [getP_cons] at hm
    by_cases h2 : a = key
    · rw [if_pos h2] at hm
      simp at hm
    · rw [if_neg h2] at hm
      by_cases h1 : key < a
      · rw [if_pos h1, placeP, if_pos (by omega)]
        rfl
      · rw [if_neg h1, if_neg (by omega), ih hm, placeP, if_neg (by omega)]
        rfl

theorem withF_set (key n least : Int) : ∀ (l : List Int) (lo : Int), Pairs least lo l → hitP key l = true → withF key n false l = l.set (placeP key l + 1) n
  | [], lo, _, h => by simp [hitP, getP] at h
  | [_], lo, h, _ => by simp [Pairs] at h
  | a :: b :: r, lo, h, hm => by
    rw [withF_cons key n least a b r lo h]
    have hg := getP_above (least := least) (key := key) (l := r) (lo := a)
    unfold Pairs at h
    have ih := withF_set key n least r a h.2.2.2.2
    unfold hitP at hm
    rw [getP_cons] at hm
    by_cases h2 : a = key
    · rw [if_neg (by omega), if_pos h2.symm, placeP, if_pos (by omega), h2]
      rfl
    · rw [if_neg h2] at hm
      by_cases h1 : key < a
      · rw [hg h.2.2.2.2 (by omega)] at hm
        simp at hm
      · rw [if_neg h1, if_neg (by omega), ih hm, placeP, if_neg (by omega)]
        rfl

theorem withoutF_above {least key : Int} : ∀ {l : List Int} {lo : Int}, Pairs least lo l → key ≤ lo → withoutF key l = l
  | [], _, _, _ => rfl
  | [_], _, h, _ => by simp [Pairs] at h
  | a :: b :: r, lo, h, hk => by
    unfold Pairs at h
    rw [withoutF_cons, if_pos (by omega), withoutF_above h.2.2.2.2 (by omega)]

theorem withoutF_not (key least : Int) : ∀ (l : List Int) (lo : Int), Pairs least lo l → hitP key l = false → withoutF key l = l
  | [], lo, _, _ => rfl
  | [_], lo, h, _ => by simp [Pairs] at h
  | a :: b :: r, lo, h, hm => by
    unfold Pairs at h
    have ih := withoutF_not key least r a h.2.2.2.2
    unfold hitP at hm
    rw [getP_cons] at hm
    by_cases h2 : a = key
    · rw [if_pos h2] at hm
      simp at hm
    · rw [if_neg h2] at hm
      rw [withoutF_cons, if_pos h2, ih hm]

theorem withoutF_cut (key least : Int) : ∀ (l : List Int) (lo : Int), Pairs least lo l → hitP key l = true → withoutF key l = l.take (placeP key l) ++ l.drop (placeP key l + 2)
  | [], lo, _, h => by simp [hitP, getP] at h
  | [_], lo, h, _ => by simp [Pairs] at h
  | a :: b :: r, lo, h, hm => by
    have hg := getP_above (least := least) (key := key) (l := r) (lo := a)
    unfold Pairs at h
    have ih := withoutF_cut key least r a h.2.2.2.2
    unfold hitP at hm
    rw [getP_cons] at hm
    rw [withoutF_cons]
    by_cases h2 : a = key
    · rw [if_neg (by omega), placeP, if_pos (by omega), withoutF_above h.2.2.2.2 (by omega)]
      rfl
    · rw [if_neg h2] at hm
      rw [if_pos h2]
      by_cases h1 : key ≤ a
      · rw [hg h.2.2.2.2 h1] at hm
        simp at hm
      · rw [ih hm, placeP, if_neg h1]
        rfl

/-- A store's step, as it landed: a key that may not be is told first. -/
def storeO (s : St) (o : Opn) : St × Int :=
  if o.a < 0 ∨ 255 < o.a then (s, -1) else
  if o.code ≠ 7 ∧ o.code ≠ 6 ∧ o.code ≠ 5 then (s, 0) else
  if o.code = 6 then (⟨s.kind, withoutF o.a s.L, s.shut, s.eng⟩, hadF o.a s.L) else
  if o.code = 5 then (if findF o.a 0 s.L < 0 ∧ s.L.length = 128 then (s, -2) else (⟨s.kind, withF o.a (cutZ o.b) false s.L, s.shut, s.eng⟩, hadF o.a s.L)) else
  (s, hadF o.a s.L)

/-- A state behind an operation, and what came of it, as it landed. -/
def stepO (s : St) (o : Opn) : St × Int :=
  if ¬ MayS s then (s, 0) else
  if s.shut = true then (s, -1125899906842624) else
  if o.code = 10 then (⟨s.kind, s.L, true, if 0 ≤ o.a ∧ o.a ≤ 2 then o.a else s.eng⟩, 0) else
  if s.kind ≤ 1 then oneS s o else if s.kind ≤ 3 then listS s o else if s.kind = 4 then storeO s o else ledgerS s o

/-- The state is what the document's step makes of it. -/
theorem storeO_state (s : St) (o : Opn) : (storeO s o).1 = (storeS s o).1 := by
  unfold storeO storeS
  by_cases h1 : o.a < 0 ∨ 255 < o.a
  · rw [if_pos h1]
    split
    · rfl
    · first | rfl | (rw [if_pos h1])
  · rw [if_neg h1, if_neg h1]

theorem stepO_state (s : St) (o : Opn) : (stepO s o).1 = (stepS s o).1 := by
  unfold stepO stepS
  split
  · rfl
  split
  · rfl
  split
  · rfl
  split
  · rfl
  split
  · rfl
  split
  · exact storeO_state s o
  · rfl

/-- So is the answer, but for operations that a store does not know, on what is no key. -/
theorem stepO_eq (s : St) (o : Opn) (h : s.kind ≠ 4 ∨ s.shut = true ∨ o.code = 10 ∨ o.code = 5 ∨ o.code = 6 ∨ o.code = 7 ∨ (0 ≤ o.a ∧ o.a ≤ 255)) : stepO s o = stepS s o := by
  unfold stepO stepS
  split
  · rfl
  split
  · rfl
  split
  · rfl
  split
  · rfl
  split
  · rfl
  split
  · rename_i hm hs hc _ _ hk
    unfold storeO storeS
    rcases h with h | h | h | h | h | h | h
    · exact absurd hk h
    · exact absurd h hs
    · exact absurd h hc
    · rw [if_neg (show ¬ (o.code ≠ 7 ∧ o.code ≠ 6 ∧ o.code ≠ 5) by omega), if_neg (show ¬ (o.code ≠ 7 ∧ o.code ≠ 6 ∧ o.code ≠ 5) by omega)]
    · rw [if_neg (show ¬ (o.code ≠ 7 ∧ o.code ≠ 6 ∧ o.code ≠ 5) by omega), if_neg (show ¬ (o.code ≠ 7 ∧ o.code ≠ 6 ∧ o.code ≠ 5) by omega)]
    · rw [if_neg (show ¬ (o.code ≠ 7 ∧ o.code ≠ 6 ∧ o.code ≠ 5) by omega), if_neg (show ¬ (o.code ≠ 7 ∧ o.code ≠ 6 ∧ o.code ≠ 5) by omega)]
    · rw [if_neg (show ¬ (o.a < 0 ∨ 255 < o.a) by omega), if_neg (show ¬ (o.a < 0 ∨ 255 < o.a) by omega)]
  · rfl

theorem stepO_not {s : St} (h : ¬ MayS s) (o : Opn) : stepO s o = (s, 0) := by
  unfold stepO
  rw [if_pos h]

theorem stepO_shut {s : St} (h : MayS s) (hs : s.shut = true) (o : Opn) : stepO s o = (s, -1125899906842624) := by
  unfold stepO
  rw [if_neg (fun e => e h), if_pos hs]

theorem stepO_may {s : St} (h : MayS s) (o : Opn) : MayS (stepO s o).1 := by rw [stepO_state]; exact step_may h o
theorem stepO_kind (s : St) (o : Opn) : (stepO s o).1.kind = s.kind := by rw [stepO_state]; exact step_kind s o
theorem stepO_shut' {s : St} (h : MayS s) (o : Opn) : (stepO s o).1.shut = (s.shut || decide (o.code = 10)) := by rw [stepO_state]; exact step_shut' h o

/-- A state behind operations, and what came of each, as it landed. -/
def foldO : St → List Opn → St × List Int
  | s, [] => (s, [])
  | s, o :: r => ((foldO (stepO s o).1 r).1, (stepO s o).2 :: (foldO (stepO s o).1 r).2)

theorem foldO_snoc : ∀ (l : List Opn) (s : St) (o : Opn), foldO s (l ++ [o]) = ((stepO (foldO s l).1 o).1, (foldO s l).2 ++ [(stepO (foldO s l).1 o).2])
  | [], _, _ => rfl
  | p :: r, s, o => by
    rw [List.cons_append, foldO, foldO_snoc r (stepO s p).1 o, foldO]
    rfl

end Go.Proofs.YtgpdbboieokldaaGreat

/- A snapshot behind records, over plain lists, and what follows. -/
namespace Go.Proofs.YtgpdbboieokldaaGreat

/-- A snapshot behind one record that fits. -/
def nextN (s : Snap) (r : Rec) : Snap := ⟨s.idx + 1, (stepO s.st r.op).1, noteL s.tab ⟨r.proc, r.seq, (stepO s.st r.op).2⟩⟩

/-- A snapshot behind records, or the first error. -/
def takeN : Snap → List Rec → Snap × Int
  | s, [] => (s, 0)
  | s, r :: l => if r.idx ≠ s.idx then (zeroN, 15) else if ¬ FitsR r then (zeroN, 1) else takeN (nextN s r) l

theorem takeN_err : ∀ (l : List Rec) (s : Snap), (takeN s l).2 ≠ 0 → takeN s l = (zeroN, (takeN s l).2)
  | [], s, h => absurd rfl h
  | r :: l, s, h => by
    rw [takeN] at h ⊢
    split
    · rfl
    · rename_i h1
      rw [if_neg h1] at h
      split
      · rfl
      · rename_i h2
        rw [if_neg h2] at h
        exact takeN_err l _ h

theorem takeN_app : ∀ (a b : List Rec) (s : Snap), takeN s (a ++ b) = if (takeN s a).2 = 0 then takeN (takeN s a).1 b else takeN s a
  | [], b, s => by simp [takeN]
  | r :: a, b, s => by
    rw [List.cons_append, takeN, takeN]
    by_cases h1 : r.idx ≠ s.idx
    · rw [if_pos h1, if_pos h1, if_neg (by simp)]
    · rw [if_neg h1, if_neg h1]
      by_cases h2 : ¬ FitsR r
      · rw [if_pos h2, if_pos h2, if_neg (by simp)]
      · rw [if_neg h2, if_neg h2]
        exact takeN_app a b _

theorem takeN_cut {s : Snap} {l : List Rec} (k : Nat) (h : (takeN s l).2 = 0) : (takeN s (l.take k)).2 = 0 ∧ takeN (takeN s (l.take k)).1 (l.drop k) = takeN s l := by
  have e := takeN_app (l.take k) (l.drop k) s
  rw [List.take_append_drop] at e
  by_cases h0 : (takeN s (l.take k)).2 = 0
  · rw [if_pos h0] at e
    exact ⟨h0, e.symm⟩
  · rw [if_neg h0] at e
    rw [e] at h
    exact absurd h h0

theorem takeN_cut_err {s : Snap} {l : List Rec} (k : Nat) : (takeN s (l.take k)).2 = 0 ∨ (takeN s (l.take k)).2 = (takeN s l).2 := by
  have e := takeN_app (l.take k) (l.drop k) s
  rw [List.take_append_drop] at e
  by_cases h0 : (takeN s (l.take k)).2 = 0
  · exact .inl h0
  · rw [if_neg h0] at e
    exact .inr (by rw [e])

theorem takeN_state : ∀ (l : List Rec) (s : Snap), (takeN s l).2 = 0 → (takeN s l).1.st = (foldO s.st (l.map (fun r => r.op))).1 ∧ (takeN s l).1.idx = s.idx + l.length
  | [], s, _ => by simp [takeN, foldO]
  | r :: l, s, h => by
    rw [takeN] at h ⊢
    by_cases h1 : r.idx ≠ s.idx
    · rw [if_pos h1] at h
      exact absurd h (by decide)
    rw [if_neg h1] at h ⊢
    by_cases h2 : ¬ FitsR r
    · rw [if_pos h2] at h
      exact absurd h (by decide)
    rw [if_neg h2] at h ⊢
    obtain ⟨i1, i2⟩ := takeN_state l (nextN s r) h
    rw [i1, i2, List.map_cons, foldO]
    refine ⟨rfl, ?_⟩
    show s.idx + 1 + _ = _
    rw [List.length_cons]
    omega

theorem takeN_few : ∀ (l : List Rec) (s : Snap), (takeN s l).2 = 0 → (takeN s l).1.tab.length ≤ s.tab.length + l.length
  | [], s, _ => by simp [takeN]
  | r :: l, s, h => by
    rw [takeN] at h ⊢
    by_cases h1 : r.idx ≠ s.idx
    · rw [if_pos h1] at h
      exact absurd h (by decide)
    rw [if_neg h1] at h ⊢
    by_cases h2 : ¬ FitsR r
    · rw [if_pos h2] at h
      exact absurd h (by decide)
    rw [if_neg h2] at h ⊢
    have i1 := takeN_few l (nextN s r) h
    have i2 := noteL_len s.tab ⟨r.proc, r.seq, (stepO s.st r.op).2⟩
    have e : (nextN s r).tab = noteL s.tab ⟨r.proc, r.seq, (stepO s.st r.op).2⟩ := rfl
    rw [e] at i1
    rw [List.length_cons]
    omega

end Go.Proofs.YtgpdbboieokldaaGreat

/- What changes a snapshot into a later one, over plain lists: told, and applied, it makes the later one. -/
namespace Go.Proofs.YtgpdbboieokldaaGreat

/-- Has the later table each process of the elder one? -/
def Covers (a b : List Ent) : Prop := ∀ x ∈ a, ∃ y ∈ b, y.proc = x.proc

instance (a b : List Ent) : Decidable (Covers a b) := by unfold Covers; infer_instance

def diffD (a b : Snap) : Delt × Int :=
  if ¬ MayN a ∨ ¬ MayN b ∨ a.st.kind ≠ b.st.kind then (zeroD, 1)
  else if b.idx < a.idx ∨ ¬ Covers a.tab b.tab then (zeroD, 15)
  else (⟨a.idx, b.idx, (preL a.st.L b.st.L : Nat), (sufL a.st.L b.st.L : Nat), midL a.st.L b.st.L, b.st.shut, b.st.eng, diffT a.tab b.tab⟩, 0)

/-- The snapshot that a delta makes, whether it may be or not. -/
def madeD (a : Snap) (d : Delt) : Snap := ⟨d.upto, ⟨a.st.kind, a.st.L.take d.ahead.toNat ++ (d.mid ++ a.st.L.drop (a.st.L.length - d.behind.toNat)), d.shut, d.eng⟩, d.tab.foldl noteL a.tab⟩

def applyD (a : Snap) (d : Delt) : Snap × Int :=
  if ¬ MayN a ∨ d.ahead < 0 ∨ d.behind < 0 ∨ (a.st.L.length : Int) < d.ahead + d.behind then (zeroN, 1)
  else if a.idx ≠ d.frm ∨ d.upto < d.frm then (zeroN, 15)
  else if MayN (madeD a d) then (madeD a d, 0) else (zeroN, 1)

theorem applyD_diff {a b : Snap} (h : (diffD a b).2 = 0) : applyD a (diffD a b).1 = (b, 0) := by
  unfold diffD at h ⊢
  by_cases h1 : ¬ MayN a ∨ ¬ MayN b ∨ a.st.kind ≠ b.st.kind
  · rw [if_pos h1] at h
    exact absurd h (by decide)
  rw [if_neg h1] at h ⊢
  by_cases h2 : b.idx < a.idx ∨ ¬ Covers a.tab b.tab
  · rw [if_pos h2] at h
    exact absurd h (by decide)
  rw [if_neg h2]
  have ha : MayN a := Classical.byContradiction fun h => h1 (.inl h)
  have hb : MayN b := Classical.byContradiction fun h => h1 (.inr (.inl h))
  have hk : a.st.kind = b.st.kind := Classical.byContradiction fun h => h1 (.inr (.inr h))
  have hc : Covers a.tab b.tab := Classical.byContradiction fun h => h2 (.inr h)
  have hs := sufL_le a.st.L b.st.L
  have hm : madeD a ⟨a.idx, b.idx, (preL a.st.L b.st.L : Nat), (sufL a.st.L b.st.L : Nat), midL a.st.L b.st.L, b.st.shut, b.st.eng, diffT a.tab b.tab⟩ = b := by
    unfold madeD
    simp only [Int.toNat_natCast]
    rw [diff_apply, diffT_apply ha.2.2.rises hb.2.2.rises hc, hk]
  unfold applyD
  rw [hm]
  simp only
  rw [if_neg, if_neg, if_pos hb]
  · rintro (h | h)
    · exact h rfl
    · exact h2 (.inl h)
  · rintro (h | h | h | h)
    · exact h ha
    · omega
    · omega
    · omega

theorem nums_in {s : St} (h : MayS s) : s.L.length ≤ 128 ∧ ∀ x ∈ s.L, -1099511627776 ≤ x ∧ x ≤ 1099511627776 := by
  obtain ⟨-, -, -, -, -, hn⟩ := h
  have pairs : ∀ {least : Int}, -1099511627776 ≤ least → PairsOk least s.L → s.L.length ≤ 128 ∧ ∀ x ∈ s.L, -1099511627776 ≤ x ∧ x ≤ 1099511627776 := fun hl hp => by
    obtain ⟨p1, p2, p3⟩ := hp
    refine ⟨p2, fun x hx => ?_⟩
    obtain ⟨j, hj, rfl⟩ := List.getElem_of_mem hx
    have e : s.L[j] = s.L.getD j 0 := by simp [List.getD, hj]
    rw [e]
    by_cases he : j % 2 = 0
    · obtain ⟨q1, q2, -⟩ := p3 j hj he
      omega
    · obtain ⟨-, -, -, q4, q5⟩ := p3 (j - 1) (by omega) (by omega)
      rw [show j - 1 + 1 = j by omega] at q4 q5
      omega
  unfold NumsOk at hn
  split at hn
  · exact pairs (Int.le_refl _) hn
  split at hn
  · exact pairs (by decide) hn
  · obtain ⟨q1, -, q3⟩ := hn
    refine ⟨by omega, fun x hx => ?_⟩
    obtain ⟨j, hj, rfl⟩ := List.getElem_of_mem hx
    have e : s.L[j] = s.L.getD j 0 := by simp [List.getD, hj]
    rw [e]
    exact q3 j hj

theorem rises_tabTo {t : List Ent} (hr : Rises t) (hm : ∀ e ∈ t, EntOk e) : TabOk t := by
  intro i hi
  have e1 : t.getD i zeroE = t[i] := by simp [List.getD, hi]
  refine ⟨by rw [e1]; exact hm _ (List.getElem_mem hi), fun h0 => ?_⟩
  have hi1 : i - 1 < t.length := by omega
  have e2 : t.getD (i - 1) zeroE = t[i - 1] := by simp [List.getD, hi1]
  rw [e1, e2]
  exact List.pairwise_iff_getElem.1 hr (i - 1) i hi1 hi (by omega)

theorem diffT_ok {a b : List Ent} (hb : TabOk b) : TabOk (diffT a b) :=
  rises_tabTo (List.Pairwise.filter _ hb.rises) (fun e he => hb.mem e (List.mem_filter.1 he).1)

/-- What is told may be. -/
theorem diffD_may {a b : Snap} (h : (diffD a b).2 = 0) : MayD (diffD a b).1 := by
  unfold diffD at h ⊢
  by_cases h1 : ¬ MayN a ∨ ¬ MayN b ∨ a.st.kind ≠ b.st.kind
  · rw [if_pos h1] at h
    exact absurd h (by decide)
  rw [if_neg h1] at h ⊢
  by_cases h2 : b.idx < a.idx ∨ ¬ Covers a.tab b.tab
  · rw [if_pos h2] at h
    exact absurd h (by decide)
  rw [if_neg h2]
  have ha : MayN a := Classical.byContradiction fun h => h1 (.inl h)
  have hb : MayN b := Classical.byContradiction fun h => h1 (.inr (.inl h))
  have hs := sufL_le a.st.L b.st.L
  obtain ⟨n1, n2⟩ := nums_in hb.2.1
  have hmem : ∀ x ∈ midL a.st.L b.st.L, x ∈ b.st.L := fun x hx => List.mem_of_mem_drop (List.mem_of_mem_take hx)
  have hlen : (midL a.st.L b.st.L).length ≤ b.st.L.length := by
    unfold midL
    rw [List.length_take, List.length_drop]
    omega
  refine ⟨ha.1, hb.1, ⟨by show (0 : Int) ≤ ((preL a.st.L b.st.L : Nat) : Int); omega, by show ((preL a.st.L b.st.L : Nat) : Int) < _; omega⟩, ⟨by show (0 : Int) ≤ ((sufL a.st.L b.st.L : Nat) : Int); omega, by show ((sufL a.st.L b.st.L : Nat) : Int) < _; omega⟩, Nat.le_trans hlen n1, fun x hx => n2 x (hmem x hx), ⟨hb.2.1.1, hb.2.1.2.1⟩, hb.2.1.2.2.1, diffT_ok hb.2.2⟩

/-- A delta to itself changes nothing. -/
theorem preL_self : ∀ a : List Int, preL a a = a.length
  | [] => rfl
  | x :: a => by rw [preL, if_pos rfl, preL_self a, List.length_cons]

theorem diffD_self {a : Snap} (h : MayN a) : diffD a a = (⟨a.idx, a.idx, (a.st.L.length : Nat), 0, [], a.st.shut, a.st.eng, []⟩, 0) := by
  unfold diffD
  rw [if_neg (by rintro (h1 | h1 | h1) <;> exact h1 (by first | exact h | rfl)), if_neg (by
    rintro (h1 | h1)
    · omega
    · exact h1 (fun x hx => ⟨x, hx, rfl⟩))]
  have e1 : sufL a.st.L a.st.L = 0 := by
    unfold sufL
    rw [preL_self, preL_self, List.drop_length]
    rfl
  have e2 : midL a.st.L a.st.L = [] := by
    unfold midL
    rw [preL_self, List.drop_length, List.take_nil]
  have e3 : diffT a.tab a.tab = [] := by
    unfold diffT
    rw [List.filter_eq_nil_iff]
    intro x hx
    simp [hx]
  rw [e1, e2, e3, preL_self]
  rfl

/-- Behind records each process that was noted is. -/
theorem takeN_covers : ∀ (l : List Rec) (s : Snap), (takeN s l).2 = 0 → Covers s.tab (takeN s l).1.tab
  | [], s, _ => fun x hx => ⟨x, hx, rfl⟩
  | r :: l, s, h => by
    rw [takeN] at h ⊢
    by_cases h1 : r.idx ≠ s.idx
    · rw [if_pos h1] at h
      exact absurd h (by decide)
    rw [if_neg h1] at h ⊢
    by_cases h2 : ¬ FitsR r
    · rw [if_pos h2] at h
      exact absurd h (by decide)
    rw [if_neg h2] at h ⊢
    intro x hx
    have ih := takeN_covers l (nextN s r) h
    by_cases hp : x.proc = r.proc
    · obtain ⟨y, hy, hyp⟩ := ih ⟨r.proc, r.seq, (stepO s.st r.op).2⟩ ((noteG_mem _ _ _ _).2 (.inl ⟨rfl, rfl⟩))
      exact ⟨y, hy, hyp.trans hp.symm⟩
    · exact ih x ((noteG_mem _ _ _ _).2 (.inr ⟨hx, hp⟩))

end Go.Proofs.YtgpdbboieokldaaGreat

