import Derived.Test.YtgpdbboieokldaaGreatPack1
import Derived.Test.YtgpdbboieokldaaGreatPack2
import Derived.Test.YtgpdbboieokldaaGreatPack3
import Derived.Lib.SliceRun
import Derived.Shelf.Slices.Equal
import Derived.Shelf.Slices.Empties2
import Derived.Shelf.Slices.Clone
import Derived.Shelf.Slices.Cells
import Derived.Shelf.Spec.SlicesInsert
import Derived.Shelf.Spec.SlicesInsertGrow
/- Objects: where a key's pair stands; what the landed step makes of a state. -/
namespace Go.Proofs.YtgpdbboieokldaaGreat

/-- Where a key's pair stands, or would stand. -/
def placeP (key : Int) : List Int → Nat
  | a :: _ :: r => if key ≤ a then 0 else placeP key r + 2
  | _ => 0

/-- A key has a pair. -/
def hitP (key : Int) (l : List Int) : Bool := (getP key l).isSome

theorem placeP_le (key : Int) : ∀ (l : List Int), l.length % 2 = 0 → placeP key l ≤ l.length ∧ placeP key l % 2 = 0
  | [], _ => ⟨Nat.le_refl _, rfl⟩
  | [_], h => by simp at h
  | a :: b :: r, h => by
    have ih := placeP_le key r (by simp at h; omega)
    unfold placeP
    split
    · simp
    · simp
      omega

/-- Ahead of the place all keys are less. -/
theorem placeP_drop (key : Int) : ∀ (l : List Int) (k : Nat), l.length % 2 = 0 → k % 2 = 0 → k ≤ l.length → (∀ j, j < k → j % 2 = 0 → l.getD j 0 < key) → placeP key l = k + placeP key (l.drop k)
  | [], k, _, _, hk, _ => by
    have : k = 0 := by simpa using hk
    subst this
    rfl
  | [_], _, h, _, _, _ => by simp at h
  | a :: b :: r, k, h, hk2, hk, hall => by
    by_cases h0 : k = 0
    · subst h0
      simp
    · obtain ⟨j, rfl⟩ : ∃ j, k = j + 2 := ⟨k - 2, by omega⟩
      have h1 := hall 0 (by omega) rfl
      have h1' : a < key := h1
      have ih := placeP_drop key r j (by simp at h; omega) (by omega) (by simp at hk; omega) (fun i hi hi2 => by
        have := hall (i + 2) (by omega) (by omega)
        exact this)
      conv => lhs; unfold placeP
      rw [if_neg (by omega), ih]
      show j + placeP key (r.drop j) + 2 = j + 2 + placeP key (r.drop j)
      omega

theorem placeP_stop (key : Int) (l : List Int) (k : Nat) (hk : k + 1 < l.length) (h : key ≤ l.getD k 0) : placeP key (l.drop k) = 0 := by
  rw [drop_pair l k hk, placeP, if_pos h]

theorem placeP_hit (key least : Int) : ∀ (l : List Int) (lo : Int), Pairs least lo l → hitP key l = decide (placeP key l < l.length ∧ l.getD (placeP key l) 0 = key) ∧ (hitP key l = true → getP key l = some (l.getD (placeP key l + 1) 0) ∧ placeP key l + 1 < l.length)
  | [], lo, _ => by simp [hitP, getP, placeP]
  | [_], lo, h => by simp [Pairs] at h
  | a :: b :: r, lo, h => by
    have hg := getP_above (least := least) (key := key) (l := r) (lo := a)
    unfold Pairs at h
    have ih := placeP_hit key least r a h.2.2.2.2
    by_cases h1 : key ≤ a
    · have e : placeP key (a :: b :: r) = 0 := by unfold placeP; rw [if_pos h1]
      rw [e]
      by_cases h2 : a = key
      · have e2 : getP key (a :: b :: r) = some b := by rw [getP_cons, if_pos h2]
        unfold hitP
        rw [e2]
        simp [h2]
      · have e2 : getP key (a :: b :: r) = none := by rw [getP_cons, if_neg h2, hg h.2.2.2.2 h1]
        unfold hitP
        rw [e2]
        simp [h2]
    · have e : placeP key (a :: b :: r) = placeP key r + 2 := by rw [placeP, if_neg h1]
      have e2 : getP key (a :: b :: r) = getP key r := by rw [getP_cons, if_neg (by omega)]
      have e3 : hitP key (a :: b :: r) = hitP key r := by unfold hitP; rw [e2]
      rw [e, e2, e3]
      refine ⟨?_, fun hh => ?_⟩
      · rw [ih.1]
        have e4 : (a :: b :: r).getD (placeP key r + 2) 0 = r.getD (placeP key r) 0 := rfl
        rw [e4]
        apply decide_eq_decide.2
        simp
      · have := ih.2 hh
        refine ⟨this.1, ?_⟩
        simp
        omega

theorem withF_insert (key n least : Int) : ∀ (l : List Int) (lo : Int), Pairs least lo l → hitP key l = false → withF key n false l = l.take (placeP key l) ++ ([key, n] ++ l.drop (placeP key l))
  | [], lo, _, _ => by simp [withF, placeP]
  | [_], lo, h, _ => by simp [Pairs] at h
  | a :: b :: r, lo, h, hm => by
    rw [withF_cons key n least a b r lo h]
    unfold Pairs at h
    have ih := withF_insert key n least r a h.2.2.2.2
    unfold hitP at hm
    rw [getP_cons] at hm
    by_cases h2 : a = key
    · rw [if_pos h2] at hm
      simp at hm
    · rw [if_neg h2] at hm
      by_cases h1 : key < a
      · rw [if_pos h1, placeP, if_pos (by omega)]
        rfl
      · rw [if_neg h1, if_neg (by omega), ih hm, placeP, if_neg (by omega)]
        rfl

theorem withF_set (key n least : Int) : ∀ (l : List Int) (lo : Int), Pairs least lo l → hitP key l = true → withF key n false l = l.set (placeP key l + 1) n
  | [], lo, _, h => by simp [hitP, getP] at h
  | [_], lo, h, _ => by simp [Pairs] at h
  | a :: b :: r, lo, h, hm => by
    rw [withF_cons key n least a b r lo h]
    have hg := getP_above (least := least) (key := key) (l := r) (lo := a)
    unfold Pairs at h
    have ih := withF_set key n least r a h.2.2.2.2
    unfold hitP at hm
    rw [getP_cons] at hm
    by_cases h2 : a = key
    · rw [if_neg (by omega), if_pos h2.symm, placeP, if_pos (by omega), h2]
      rfl
    · rw [if_neg h2] at hm
      by_cases h1 : key < a
      · rw [hg h.2.2.2.2 (by omega)] at hm
        simp at hm
      · rw [if_neg h1, if_neg (by omega), ih hm, placeP, if_neg (by omega)]
        rfl

theorem withoutF_above {least key : Int} : ∀ {l : List Int} {lo : Int}, Pairs least lo l → key ≤ lo → withoutF key l = l
  | [], _, _, _ => rfl
  | [_], _, h, _ => by simp [Pairs] at h
  | a :: b :: r, lo, h, hk => by
    unfold Pairs at h
    rw [withoutF_cons, if_pos (by omega), withoutF_above h.2.2.2.2 (by omega)]

theorem withoutF_not (key least : Int) : ∀ (l : List Int) (lo : Int), Pairs least lo l → hitP key l = false → withoutF key l = l
  | [], lo, _, _ => rfl
  | [_], lo, h, _ => by simp [Pairs] at h
  | a :: b :: r, lo, h, hm => by
    unfold Pairs at h
    have ih := withoutF_not key least r a h.2.2.2.2
    unfold hitP at hm
    rw [getP_cons] at hm
    by_cases h2 : a = key
    · rw [if_pos h2] at hm
      simp at hm
    · rw [if_neg h2] at hm
      rw [withoutF_cons, if_pos h2, ih hm]

theorem withoutF_cut (key least : Int) : ∀ (l : List Int) (lo : Int), Pairs least lo l → hitP key l = true → withoutF key l = l.take (placeP key l) ++ l.drop (placeP key l + 2)
  | [], lo, _, h => by simp [hitP, getP] at h
  | [_], lo, h, _ => by simp [Pairs] at h
  | a :: b :: r, lo, h, hm => by
    have hg := getP_above (least := least) (key := key) (l := r) (lo := a)
    unfold Pairs at h
    have ih := withoutF_cut key least r a h.2.2.2.2
    unfold hitP at hm
    rw [getP_cons] at hm
    rw [withoutF_cons]
    by_cases h2 : a = key
    · rw [if_neg (by omega), placeP, if_pos (by omega), withoutF_above h.2.2.2.2 (by omega)]
      rfl
    · rw [if_neg h2] at hm
      rw [if_pos h2]
      by_cases h1 : key ≤ a
      · rw [hg h.2.2.2.2 h1] at hm
        simp at hm
      · rw [ih hm, placeP, if_neg h1]
        rfl

/-- A store's step, as it landed: a key that may not be is told first. -/
def storeO (s : St) (o : Opn) : St × Int :=
  if o.a < 0 ∨ 255 < o.a then (s, -1) else
  if o.code ≠ 7 ∧ o.code ≠ 6 ∧ o.code ≠ 5 then (s, 0) else
  if o.code = 6 then (⟨s.kind, withoutF o.a s.L, s.shut, s.eng⟩, hadF o.a s.L) else
  if o.code = 5 then (if findF o.a 0 s.L < 0 ∧ s.L.length = 128 then (s, -2) else (⟨s.kind, withF o.a (cutZ o.b) false s.L, s.shut, s.eng⟩, hadF o.a s.L)) else
  (s, hadF o.a s.L)

/-- A state behind an operation, and what came of it, as it landed. -/
def stepO (s : St) (o : Opn) : St × Int :=
  if ¬ MayS s then (s, 0) else
  if s.shut = true then (s, -1125899906842624) else
  if o.code = 10 then (⟨s.kind, s.L, true, if 0 ≤ o.a ∧ o.a ≤ 2 then o.a else s.eng⟩, 0) else
  if s.kind ≤ 1 then oneS s o else if s.kind ≤ 3 then listS s o else if s.kind = 4 then storeO s o else ledgerS s o

/-- The state is what the document's step makes of it. -/
theorem storeO_state (s : St) (o : Opn) : (storeO s o).1 = (storeS s o).1 := by
  unfold storeO storeS
  by_cases h1 : o.a < 0 ∨ 255 < o.a
  · rw [if_pos h1]
    split
    · rfl
    · first | rfl | (rw [if_pos h1])
  · rw [if_neg h1, if_neg h1]

theorem stepO_state (s : St) (o : Opn) : (stepO s o).1 = (stepS s o).1 := by
  unfold stepO stepS
  split
  · rfl
  split
  · rfl
  split
  · rfl
  split
  · rfl
  split
  · rfl
  split
  · exact storeO_state s o
  · rfl

/-- So is the answer, but for operations that a store does not know, on what is no key. -/
theorem stepO_eq (s : St) (o : Opn) (h : s.kind ≠ 4 ∨ s.shut = true ∨ o.code = 10 ∨ o.code = 5 ∨ o.code = 6 ∨ o.code = 7 ∨ (0 ≤ o.a ∧ o.a ≤ 255)) : stepO s o = stepS s o := by
  unfold stepO stepS
  split
  · rfl
  split
  · rfl
  split
  · rfl
  split
  · rfl
  split
  · rfl
  split
  · rename_i hm hs hc _ _ hk
    unfold storeO storeS
    rcases h with h | h | h | h | h | h | h
    · exact absurd hk h
    · exact absurd h hs
    · exact absurd h hc
    · rw [if_neg (show ¬ (o.code ≠ 7 ∧ o.code ≠ 6 ∧ o.code ≠ 5) by omega), if_neg (show ¬ (o.code ≠ 7 ∧ o.code ≠ 6 ∧ o.code ≠ 5) by omega)]
    · rw [if_neg (show ¬ (o.code ≠ 7 ∧ o.code ≠ 6 ∧ o.code ≠ 5) by omega), if_neg (show ¬ (o.code ≠ 7 ∧ o.code ≠ 6 ∧ o.code ≠ 5) by omega)]
    · rw [if_neg (show ¬ (o.code ≠ 7 ∧ o.code ≠ 6 ∧ o.code ≠ 5) by omega), if_neg (show ¬ (o.code ≠ 7 ∧ o.code ≠ 6 ∧ o.code ≠ 5) by omega)]
    · rw [if_neg (show ¬ (o.a < 0 ∨ 255 < o.a) by omega), if_neg (show ¬ (o.a < 0 ∨ 255 < o.a) by omega)]
  · rfl

theorem stepO_not {s : St} (h : ¬ MayS s) (o : Opn) : stepO s o = (s, 0) := by
  unfold stepO
  rw [if_pos h]

theorem stepO_shut {s : St} (h : MayS s) (hs : s.shut = true) (o : Opn) : stepO s o = (s, -1125899906842624) := by
  unfold stepO
  rw [if_neg (fun e => e h), if_pos hs]

theorem stepO_may {s : St} (h : MayS s) (o : Opn) : MayS (stepO s o).1 := by rw [stepO_state]; exact step_may h o
theorem stepO_kind (s : St) (o : Opn) : (stepO s o).1.kind = s.kind := by rw [stepO_state]; exact step_kind s o
theorem stepO_shut' {s : St} (h : MayS s) (o : Opn) : (stepO s o).1.shut = (s.shut || decide (o.code = 10)) := by rw [stepO_state]; exact step_shut' h o

/-- A state behind operations, and what came of each, as it landed. -/
def foldO : St → List Opn → St × List Int
  | s, [] => (s, [])
  | s, o :: r => ((foldO (stepO s o).1 r).1, (stepO s o).2 :: (foldO (stepO s o).1 r).2)

theorem foldO_snoc : ∀ (l : List Opn) (s : St) (o : Opn), foldO s (l ++ [o]) = ((stepO (foldO s l).1 o).1, (foldO s l).2 ++ [(stepO (foldO s l).1 o).2])
  | [], _, _ => rfl
  | p :: r, s, o => by
    rw [List.cons_append, foldO, foldO_snoc r (stepO s p).1 o, foldO]
    rfl

end Go.Proofs.YtgpdbboieokldaaGreat

/- A snapshot behind records, over plain lists, and what follows. -/
namespace Go.Proofs.YtgpdbboieokldaaGreat

/-- A snapshot behind one record that fits. -/
def nextN (s : Snap) (r : Rec) : Snap := ⟨s.idx + 1, (stepO s.st r.op).1, noteL s.tab ⟨r.proc, r.seq, (stepO s.st r.op).2⟩⟩

/-- A snapshot behind records, or the first error. -/
def takeN : Snap → List Rec → Snap × Int
  | s, [] => (s, 0)
  | s, r :: l => if r.idx ≠ s.idx then (zeroN, 15) else if ¬ FitsR r then (zeroN, 1) else takeN (nextN s r) l

theorem takeN_err : ∀ (l : List Rec) (s : Snap), (takeN s l).2 ≠ 0 → takeN s l = (zeroN, (takeN s l).2)
  | [], s, h => absurd rfl h
  | r :: l, s, h => by
    rw [takeN] at h ⊢
    split
    · rfl
    · rename_i h1
      rw [if_neg h1] at h
      split
      · rfl
      · rename_i h2
        rw [if_neg h2] at h
        exact takeN_err l _ h

theorem takeN_app : ∀ (a b : List Rec) (s : Snap), takeN s (a ++ b) = if (takeN s a).2 = 0 then takeN (takeN s a).1 b else takeN s a
  | [], b, s => by simp [takeN]
  | r :: a, b, s => by
    rw [List.cons_append, takeN, takeN]
    by_cases h1 : r.idx ≠ s.idx
    · rw [if_pos h1, if_pos h1, if_neg (by simp)]
    · rw [if_neg h1, if_neg h1]
      by_cases h2 : ¬ FitsR r
      · rw [if_pos h2, if_pos h2, if_neg (by simp)]
      · rw [if_neg h2, if_neg h2]
        exact takeN_app a b _

theorem takeN_cut {s : Snap} {l : List Rec} (k : Nat) (h : (takeN s l).2 = 0) : (takeN s (l.take k)).2 = 0 ∧ takeN (takeN s (l.take k)).1 (l.drop k) = takeN s l := by
  have e := takeN_app (l.take k) (l.drop k) s
  rw [List.take_append_drop] at e
  by_cases h0 : (takeN s (l.take k)).2 = 0
  · rw [if_pos h0] at e
    exact ⟨h0, e.symm⟩
  · rw [if_neg h0] at e
    rw [e] at h
    exact absurd h h0

theorem takeN_cut_err {s : Snap} {l : List Rec} (k : Nat) : (takeN s (l.take k)).2 = 0 ∨ (takeN s (l.take k)).2 = (takeN s l).2 := by
  have e := takeN_app (l.take k) (l.drop k) s
  rw [List.take_append_drop] at e
  by_cases h0 : (takeN s (l.take k)).2 = 0
  · exact .inl h0
  · rw [if_neg h0] at e
    exact .inr (by rw [e])

theorem takeN_state : ∀ (l : List Rec) (s : Snap), (takeN s l).2 = 0 → (takeN s l).1.st = (foldO s.st (l.map (fun r => r.op))).1 ∧ (takeN s l).1.idx = s.idx + l.length
  | [], s, _ => by simp [takeN, foldO]
  | r :: l, s, h => by
    rw [takeN] at h ⊢
    by_cases h1 : r.idx ≠ s.idx
    · rw [if_pos h1] at h
      exact absurd h (by decide)
    rw [if_neg h1] at h ⊢
    by_cases h2 : ¬ FitsR r
    · rw [if_pos h2] at h
      exact absurd h (by decide)
    rw [if_neg h2] at h ⊢
    obtain ⟨i1, i2⟩ := takeN_state l (nextN s r) h
    rw [i1, i2, List.map_cons, foldO]
    refine ⟨rfl, ?_⟩
    show s.idx + 1 + _ = _
    rw [List.length_cons]
    omega

theorem takeN_few : ∀ (l : List Rec) (s : Snap), (takeN s l).2 = 0 → (takeN s l).1.tab.length ≤ s.tab.length + l.length
  | [], s, _ => by simp [takeN]
  | r :: l, s, h => by
    rw [takeN] at h ⊢
    by_cases h1 : r.idx ≠ s.idx
    · rw [if_pos h1] at h
      exact absurd h (by decide)
    rw [if_neg h1] at h ⊢
    by_cases h2 : ¬ FitsR r
    · rw [if_pos h2] at h
      exact absurd h (by decide)
    rw [if_neg h2] at h ⊢
    have i1 := takeN_few l (nextN s r) h
    have i2 := noteL_len s.tab ⟨r.proc, r.seq, (stepO s.st r.op).2⟩
    have e : (nextN s r).tab = noteL s.tab ⟨r.proc, r.seq, (stepO s.st r.op).2⟩ := rfl
    rw [e] at i1
    rw [List.length_cons]
    omega

end Go.Proofs.YtgpdbboieokldaaGreat

/- What changes a snapshot into a later one, over plain lists: told, and applied, it makes the later one. -/
namespace Go.Proofs.YtgpdbboieokldaaGreat

/-- Has the later table each process of the elder one? -/
def Covers (a b : List Ent) : Prop := ∀ x ∈ a, ∃ y ∈ b, y.proc = x.proc

instance (a b : List Ent) : Decidable (Covers a b) := by unfold Covers; infer_instance

def diffD (a b : Snap) : Delt × Int :=
  if ¬ MayN a ∨ ¬ MayN b ∨ a.st.kind ≠ b.st.kind then (zeroD, 1)
  else if b.idx < a.idx ∨ ¬ Covers a.tab b.tab then (zeroD, 15)
  else (⟨a.idx, b.idx, (preL a.st.L b.st.L : Nat), (sufL a.st.L b.st.L : Nat), midL a.st.L b.st.L, b.st.shut, b.st.eng, diffT a.tab b.tab⟩, 0)

/-- The snapshot that a delta makes, whether it may be or not. -/
def madeD (a : Snap) (d : Delt) : Snap := ⟨d.upto, ⟨a.st.kind, a.st.L.take d.ahead.toNat ++ (d.mid ++ a.st.L.drop (a.st.L.length - d.behind.toNat)), d.shut, d.eng⟩, d.tab.foldl noteL a.tab⟩

def applyD (a : Snap) (d : Delt) : Snap × Int :=
  if ¬ MayN a ∨ d.ahead < 0 ∨ d.behind < 0 ∨ (a.st.L.length : Int) < d.ahead + d.behind then (zeroN, 1)
  else if a.idx ≠ d.frm ∨ d.upto < d.frm then (zeroN, 15)
  else if MayN (madeD a d) then (madeD a d, 0) else (zeroN, 1)

theorem applyD_diff {a b : Snap} (h : (diffD a b).2 = 0) : applyD a (diffD a b).1 = (b, 0) := by
  unfold diffD at h ⊢
  by_cases h1 : ¬ MayN a ∨ ¬ MayN b ∨ a.st.kind ≠ b.st.kind
  · rw [if_pos h1] at h
    exact absurd h (by decide)
  rw [if_neg h1] at h ⊢
  by_cases h2 : b.idx < a.idx ∨ ¬ Covers a.tab b.tab
  · rw [if_pos h2] at h
    exact absurd h (by decide)
  rw [if_neg h2]
  have ha : MayN a := Classical.byContradiction fun h => h1 (.inl h)
  have hb : MayN b := Classical.byContradiction fun h => h1 (.inr (.inl h))
  have hk : a.st.kind = b.st.kind := Classical.byContradiction fun h => h1 (.inr (.inr h))
  have hc : Covers a.tab b.tab := Classical.byContradiction fun h => h2 (.inr h)
  have hs := sufL_le a.st.L b.st.L
  have hm : madeD a ⟨a.idx, b.idx, (preL a.st.L b.st.L : Nat), (sufL a.st.L b.st.L : Nat), midL a.st.L b.st.L, b.st.shut, b.st.eng, diffT a.tab b.tab⟩ = b := by
    unfold madeD
    simp only [Int.toNat_natCast]
    rw [diff_apply, diffT_apply ha.2.2.rises hb.2.2.rises hc, hk]
  unfold applyD
  rw [hm]
  simp only
  rw [if_neg, if_neg, if_pos hb]
  · rintro (h | h)
    · exact h rfl
    · exact h2 (.inl h)
  · rintro (h | h | h | h)
    · exact h ha
    · omega
    · omega
    · omega

theorem nums_in {s : St} (h : MayS s) : s.L.length ≤ 128 ∧ ∀ x ∈ s.L, -1099511627776 ≤ x ∧ x ≤ 1099511627776 := by
  obtain ⟨-, -, -, -, -, hn⟩ := h
  have pairs : ∀ {least : Int}, -1099511627776 ≤ least → PairsOk least s.L → s.L.length ≤ 128 ∧ ∀ x ∈ s.L, -1099511627776 ≤ x ∧ x ≤ 1099511627776 := fun hl hp => by
    obtain ⟨p1, p2, p3⟩ := hp
    refine ⟨p2, fun x hx => ?_⟩
    obtain ⟨j, hj, rfl⟩ := List.getElem_of_mem hx
    have e : s.L[j] = s.L.getD j 0 := by simp [List.getD, hj]
    rw [e]
    by_cases he : j % 2 = 0
    · obtain ⟨q1, q2, -⟩ := p3 j hj he
      omega
    · obtain ⟨-, -, -, q4, q5⟩ := p3 (j - 1) (by omega) (by omega)
      rw [show j - 1 + 1 = j by omega] at q4 q5
      omega
  unfold NumsOk at hn
  split at hn
  · exact pairs (Int.le_refl _) hn
  split at hn
  · exact pairs (by decide) hn
  · obtain ⟨q1, -, q3⟩ := hn
    refine ⟨by omega, fun x hx => ?_⟩
    obtain ⟨j, hj, rfl⟩ := List.getElem_of_mem hx
    have e : s.L[j] = s.L.getD j 0 := by simp [List.getD, hj]
    rw [e]
    exact q3 j hj

theorem rises_tabTo {t : List Ent} (hr : Rises t) (hm : ∀ e ∈ t, EntOk e) : TabOk t := by
  intro i hi
  have e1 : t.getD i zeroE = t[i] := by simp [List.getD, hi]
  refine ⟨by rw [e1]; exact hm _ (List.getElem_mem hi), fun h0 => ?_⟩
  have hi1 : i - 1 < t.length := by omega
  have e2 : t.getD (i - 1) zeroE = t[i - 1] := by simp [List.getD, hi1]
  rw [e1, e2]
  exact List.pairwise_iff_getElem.1 hr (i - 1) i hi1 hi (by omega)

theorem diffT_ok {a b : List Ent} (hb : TabOk b) : TabOk (diffT a b) :=
  rises_tabTo (List.Pairwise.filter _ hb.rises) (fun e he => hb.mem e (List.mem_filter.1 he).1)

/-- What is told may be. -/
theorem diffD_may {a b : Snap} (h : (diffD a b).2 = 0) : MayD (diffD a b).1 := by
  unfold diffD at h ⊢
  by_cases h1 : ¬ MayN a ∨ ¬ MayN b ∨ a.st.kind ≠ b.st.kind
  · rw [if_pos h1] at h
    exact absurd h (by decide)
  rw [if_neg h1] at h ⊢
  by_cases h2 : b.idx < a.idx ∨ ¬ Covers a.tab b.tab
  · rw [if_pos h2] at h
    exact absurd h (by decide)
  rw [if_neg h2]
  have ha : MayN a := Classical.byContradiction fun h => h1 (.inl h)
  have hb : MayN b := Classical.byContradiction fun h => h1 (.inr (.inl h))
  have hs := sufL_le a.st.L b.st.L
  obtain ⟨n1, n2⟩ := nums_in hb.2.1
  have hmem : ∀ x ∈ midL a.st.L b.st.L, x ∈ b.st.L := fun x hx => List.mem_of_mem_drop (List.mem_of_mem_take hx)
  have hlen : (midL a.st.L b.st.L).length ≤ b.st.L.length := by
    unfold midL
    rw [List.length_take, List.length_drop]
    omega
  refine ⟨ha.1, hb.1, ⟨by show (0 : Int) ≤ ((preL a.st.L b.st.L : Nat) : Int); omega, by show ((preL a.st.L b.st.L : Nat) : Int) < _; omega⟩, ⟨by show (0 : Int) ≤ ((sufL a.st.L b.st.L : Nat) : Int); omega, by show ((sufL a.st.L b.st.L : Nat) : Int) < _; omega⟩, Nat.le_trans hlen n1, fun x hx => n2 x (hmem x hx), ⟨hb.2.1.1, hb.2.1.2.1⟩, hb.2.1.2.2.1, diffT_ok hb.2.2⟩

/-- A delta to itself changes nothing. -/
theorem preL_self : ∀ a : List Int, preL a a = a.length
  | [] => rfl
  | x :: a => by rw [preL, if_pos rfl, preL_self a, List.length_cons]

theorem diffD_self {a : Snap} (h : MayN a) : diffD a a = (⟨a.idx, a.idx, (a.st.L.length : Nat), 0, [], a.st.shut, a.st.eng, []⟩, 0) := by
  unfold diffD
  rw [if_neg (by rintro (h1 | h1 | h1) <;> exact h1 (by first | exact h | rfl)), if_neg (by
    rintro (h1 | h1)
    · omega
    · exact h1 (fun x hx => ⟨x, hx, rfl⟩))]
  have e1 : sufL a.st.L a.st.L = 0 := by
    unfold sufL
    rw [preL_self, preL_self, List.drop_length]
    rfl
  have e2 : midL a.st.L a.st.L = [] := by
    unfold midL
    rw [preL_self, List.drop_length, List.take_nil]
  have e3 : diffT a.tab a.tab = [] := by
    unfold diffT
    rw [List.filter_eq_nil_iff]
    intro x hx
    simp [hx]
  rw [e1, e2, e3, preL_self]
  rfl

/-- Behind records each process that was noted is. -/
theorem takeN_covers : ∀ (l : List Rec) (s : Snap), (takeN s l).2 = 0 → Covers s.tab (takeN s l).1.tab
  | [], s, _ => fun x hx => ⟨x, hx, rfl⟩
  | r :: l, s, h => by
    rw [takeN] at h ⊢
    by_cases h1 : r.idx ≠ s.idx
    · rw [if_pos h1] at h
      exact absurd h (by decide)
    rw [if_neg h1] at h ⊢
    by_cases h2 : ¬ FitsR r
    · rw [if_pos h2] at h
      exact absurd h (by decide)
    rw [if_neg h2] at h ⊢
    intro x hx
    have ih := takeN_covers l (nextN s r) h
    by_cases hp : x.proc = r.proc
    · obtain ⟨y, hy, hyp⟩ := ih ⟨r.proc, r.seq, (stepO s.st r.op).2⟩ ((noteG_mem _ _ _ _).2 (.inl ⟨rfl, rfl⟩))
      exact ⟨y, hy, hyp.trans hp.symm⟩
    · exact ih x ((noteG_mem _ _ _ _).2 (.inr ⟨hx, hp⟩))

end Go.Proofs.YtgpdbboieokldaaGreat

/- copy and clear over elements of more than one cell. -/
namespace Go.Proofs.YtgpdbboieokldaaGreat

theorem run_copy_many {P : Program} (w : World) (dT sT ty elem : TypeId) (k : Nat) (b o dLen dCap : Nat) (a : Addr) (sLen sCap : Nat) (cs : List Value)
    (hu : P.underlying dT = some (.slice elem)) (hs : (P.info? elem).map (·.size) = some k) (hn : cs.length = Nat.min sLen dLen * k)
    (hsrc : ∀ j v, cs[j]? = some v → w.cell? (a.add j) = some v) (hc : ∀ j, j < cs.length → (w.cell? ⟨b, o + j, none⟩).isSome = true) (hf : ∀ j, j < cs.length → w.frozen? ⟨b, o + j, none⟩ = false) (h1 : ∀ v ∈ cs, v.oneCell' = true) :
    (Builtin.copy_ #[dT, sT] ty #[.slice (some ⟨b, o, none⟩) dLen dCap, .slice (some a) sLen sCap]).run P w = .ok (goInt (Nat.min sLen dLen)) (w.setCells b o cs) := by
  have hl := run_loadCells_list (P := P) w a cs hsrc
  have hst := run_storeCells_cells (P := P) b o cs 0 w (by simpa using hc) (by simpa using hf) h1
  cases hq : P.info? elem with
  | none => simp [hq] at hs
  | some i =>
    have hi : i.size = k := by simpa [hq] using hs
    rw [hn] at hl
    simp [Builtin.copy_, run_underlying hu, Builtin.lenOf, Builtin.firstCells, sizeOf, typeInfo, hq, hi, hl, hst]

/-- The zero cells of so many elements. -/
def zeros3 : Nat → List Value
  | 0 => []
  | n + 1 => .int .i64 0 :: .int .i64 0 :: .int .i64 0 :: zeros3 n

theorem zeros3_length : ∀ n, (zeros3 n).length = n * 3
  | 0 => rfl
  | n + 1 => by rw [zeros3, List.length_cons, List.length_cons, List.length_cons, zeros3_length n]; omega

theorem zeros3_mem : ∀ n, ∀ v ∈ zeros3 n, v = .int .i64 0
  | 0, v, h => by simp [zeros3] at h
  | n + 1, v, h => by
    rw [zeros3, List.mem_cons, List.mem_cons, List.mem_cons] at h
    rcases h with h | h | h | h
    · exact h
    · exact h
    · exact h
    · exact zeros3_mem n v h

theorem zeroCells3 (n : Nat) : (Builtin.zeroCells (Value.agg #[.int .i64 0, .int .i64 0, .int .i64 0]).cells n).toList = zeros3 n := by
  have hsz : (Value.agg #[.int .i64 0, .int .i64 0, .int .i64 0]).cells = #[.int .i64 0, .int .i64 0, .int .i64 0] := by rfl
  rw [hsz]
  apply List.ext_getElem?
  intro i
  by_cases h : i < n * 3
  · have h2 : i < (zeros3 n).length := by rw [zeros3_length]; exact h
    have h3 : (zeros3 n)[i]? = some (.int .i64 0) := by
      rw [List.getElem?_eq_getElem h2, zeros3_mem n _ (List.getElem_mem h2)]
    rw [h3]
    have hm : i % 3 = 0 ∨ i % 3 = 1 ∨ i % 3 = 2 := by omega
    simp only [Builtin.zeroCells, Array.getElem?_toList, Array.getElem?_map]
    have h4 : (Array.range (n * (#[Value.int .i64 0, .int .i64 0, .int .i64 0] : Array Value).size))[i]? = some i := by simp [h]
    rw [h4]
    have h5 : (#[Value.int .i64 0, .int .i64 0, .int .i64 0] : Array Value).size = 3 := rfl
    rw [h5]
    rcases hm with e | e | e <;> rw [Option.map_some, e] <;> rfl
  · rw [List.getElem?_eq_none (by simp [Builtin.zeroCells]; omega), List.getElem?_eq_none (by rw [zeros3_length]; omega)]

theorem run_clear_three {P : Program} (w : World) (t e ty : TypeId) (ht : P.underlying t = some (.slice e)) (hv : ∀ w, (zeroValue e).run P w = .ok (.agg #[.int .i64 0, .int .i64 0, .int .i64 0]) w) (b o n c : Nat) (hn : 0 < n)
    (hc : ∀ j, j < n * 3 → (w.cell? ⟨b, o + j, none⟩).isSome = true) (hf : ∀ j, j < n * 3 → w.frozen? ⟨b, o + j, none⟩ = false) :
    (Builtin.clear_ #[t] ty #[.slice (some ⟨b, o, none⟩) n c]).run P w = .ok (.tuple #[]) (w.setCells b o (zeros3 n)) := by
  have hst := run_storeCells_cells (P := P) b o (zeros3 n) 0 w (by rw [zeros3_length]; simpa using hc) (by rw [zeros3_length]; simpa using hf) (by intro v hv'; rw [zeros3_mem n v hv']; rfl)
  simp only [Nat.add_zero] at hst
  obtain ⟨m, rfl⟩ : ∃ m, n = m + 1 := ⟨n - 1, by omega⟩
  simp [Builtin.clear_, run_underlying ht, hv, zeroCells3, hst]

theorem run_clear_no {P : Program} (w : World) (t e ty : TypeId) (ht : P.underlying t = some (.slice e)) (a : Option Addr) (c : Nat) :
    (Builtin.clear_ #[t] ty #[.slice a 0 c]).run P w = .ok (.tuple #[]) w := by
  cases a <;> simp [Builtin.clear_, run_underlying ht]

end Go.Proofs.YtgpdbboieokldaaGreat

/- The library's slices.Equal, Clone, Delete, Insert over int, laid: their contracts hold of this program. -/
namespace Go.Proofs.YtgpdbboieokldaaGreat
open Go.RowKit Go.Shelf

def layE_ren : Go.Shelf.Ren := ⟨fun | 111 => 26 | n => n, fun | 28 => 22 | 3 => 3 | 4 => 4 | 0 => 0 | n => n, fun | n => n⟩

theorem layE : Go.Proofs.Lays.n111 Tryz.prog layE_ren := {
  mixed := by kernel_rfl
  f111 := Tryz.func26.trans (congrArg some (by kernel_rfl))
  t0 := Tryz.underlying0
  a0 := Tryz.isAgg0
  z0 := Tryz.sizeOf0
  v0 := Tryz.zeroValue0
  t3 := Tryz.underlying3
  a3 := Tryz.isAgg3
  z3 := Tryz.sizeOf3
  v3 := Tryz.zeroValue3
  t4 := Tryz.underlying4
  a4 := Tryz.isAgg4
  z4 := Tryz.sizeOf4
  v4 := Tryz.zeroValue4
  t28 := Tryz.underlying22
  a28 := Tryz.isAgg22
  z28 := Tryz.sizeOf22
  v28 := Tryz.zeroValue22 }

def layM15_ren : Go.Shelf.Ren := ⟨fun | 15 => 32 | n => n, fun | 22 => 22 | 3 => 3 | 4 => 4 | n => n, fun | n => n⟩

theorem layM15 : Go.Proofs.Lays2.n15 Tryz.prog layM15_ren := {
  mixed := by kernel_rfl
  f15 := Tryz.func32.trans (congrArg some (by kernel_rfl))
  t3 := Tryz.underlying3
  a3 := Tryz.isAgg3
  z3 := Tryz.sizeOf3
  v3 := Tryz.zeroValue3
  t4 := Tryz.underlying4
  a4 := Tryz.isAgg4
  z4 := Tryz.sizeOf4
  v4 := Tryz.zeroValue4
  t22 := Tryz.underlying22
  a22 := Tryz.isAgg22
  z22 := Tryz.sizeOf22
  v22 := Tryz.zeroValue22
  i3 := by kernel_rfl }

end Go.Proofs.YtgpdbboieokldaaGreat

/- Contracts over int of slices.Clone, Equal, Delete, Insert, in the words of RdI and OwnI; a number written into a row of one's own. -/
namespace Go.Proofs.YtgpdbboieokldaaGreat
open Go.RowKit

/-- Cells of a row, some of them written anew. -/
def layC (cur : Array Value) : Nat → List Value → Array Value
  | _, [] => cur
  | o, v :: r => layC (cur.setIfInBounds o v) (o + 1) r

theorem layC_size : ∀ (vs : List Value) (o : Nat) (cur : Array Value), (layC cur o vs).size = cur.size
  | [], _, _ => rfl
  | v :: r, o, cur => by rw [layC, layC_size r]; simp

theorem layC_get : ∀ (vs : List Value) (o : Nat) (cur : Array Value) (j : Nat), j < cur.size → (layC cur o vs)[j]? = if o ≤ j ∧ j < o + vs.length then vs[j - o]? else cur[j]?
  | [], o, cur, j, _ => by
    rw [layC, if_neg (by rw [List.length_nil]; omega)]
  | v :: r, o, cur, j, hj => by
    rw [layC, layC_get r (o + 1) _ j (by simpa using hj)]
    by_cases h : j = o
    · subst h
      rw [if_neg (by omega), if_pos (by simp)]
      simp [hj]
    · by_cases h2 : o + 1 ≤ j ∧ j < o + 1 + r.length
      · rw [if_pos h2, if_pos (by simp; omega)]
        rw [show j - o = (j - (o + 1)) + 1 by omega]
        simp
      · rw [if_neg h2, if_neg (by simp; omega)]
        simp [show ¬ o = j by omega]

theorem heap_setCells (g : Nat) (t : TypeId) : ∀ (vs : List Value) (o : Nat) (w : World) (cur : Array Value), w.heap[g]? = some (.cells cur t (0, 0)) → (w.setCells g o vs).heap[g]? = some (.cells (layC cur o vs) t (0, 0))
  | [], _, _, _, h => h
  | v :: r, o, w, cur, h => by
    rw [World.setCells, layC]
    exact heap_setCells g t r (o + 1) _ _ (heap_setCell_same w g o cur t v h)

theorem belowCells {B g : Nat} {a : World} (hg : B ≤ g) : ∀ (vs : List Value) (o : Nat) (w : World), Below B a w → Below B a (w.setCells g o vs)
  | [], _, _, h => h
  | v :: r, o, w, h => by
    rw [World.setCells]
    exact belowCells hg r (o + 1) _ (h.setCell hg v)

theorem belowDrew {B : Nat} {a w : World} (h : Below B a w) : Below B a w.drew := ⟨h.os, h.tape, h.output, h.size, h.block⟩

/-- Numbers of one's own, by their cells. -/
theorem OwnI.ofRow {w : World} {B g cap : Nat} {cur : Array Value} {l : List Int} (hB : B ≤ g) (hg : w.heap[g]? = some (.cells cur 3 (0, 0))) (hn : l.length ≤ cap) (hm : cap ≤ maxLen) (hs : cur.size = cap) (hc : ∀ j, j < l.length → cur[j]? = some (.int .i64 (l.getD j 0))) :
    OwnI w B (.slice (some ⟨g, 0, none⟩) l.length cap) l := by
  refine ⟨by rw [intCells_length, Nat.mul_one], .inr ⟨g, cap, cur, rfl, hB, hg, hn, hm, by rw [hs, Nat.mul_one], ?_⟩⟩
  apply List.ext_getElem?
  intro j
  rw [Nat.mul_one]
  by_cases hj : j < l.length
  · rw [List.getElem?_take_of_lt hj, intCells_get l j hj, Array.getElem?_toList]
    exact hc j hj
  · rw [List.getElem?_eq_none (by simp; omega), List.getElem?_eq_none (by rw [intCells_length]; omega)]

theorem OwnI.ofRowN {w : World} {B g cap n : Nat} {cur : Array Value} {l : List Int} (hnl : n = l.length) (hB : B ≤ g) (hg : w.heap[g]? = some (.cells cur 3 (0, 0))) (hn : l.length ≤ cap) (hm : cap ≤ maxLen) (hs : cur.size = cap) (hc : ∀ j, j < l.length → cur[j]? = some (.int .i64 (l.getD j 0))) :
    OwnI w B (.slice (some ⟨g, 0, none⟩) n cap) l := by
  subst hnl
  exact OwnI.ofRow hB hg hn hm hs hc

/-- The row of numbers of one's own. -/
theorem OwnI.row {w : World} {B : Nat} {v : Value} {l : List Int} (h : OwnI w B v l) : (v = .slice none 0 0 ∧ l = []) ∨ ∃ g cap cur, v = .slice (some ⟨g, 0, none⟩) l.length cap ∧ B ≤ g ∧ g < w.heap.size ∧ w.heap[g]? = some (.cells cur 3 (0, 0)) ∧ l.length ≤ cap ∧ cap ≤ maxLen ∧ cur.size = cap ∧ ∀ j, j < l.length → cur[j]? = some (.int .i64 (l.getD j 0)) := by
  rcases h.2 with ⟨h1, h2⟩ | ⟨g, cap, cur, h1, h2, h3, h4, h5, h6, h7⟩
  · exact .inl ⟨h1, List.eq_nil_of_length_eq_zero h2⟩
  · refine .inr ⟨g, cap, cur, h1, h2, (Array.getElem?_eq_some_iff.1 h3).1, h3, h4, h5, by rw [h6, Nat.mul_one], fun j hj => ?_⟩
    have e := intCells_get l j hj
    rw [← h7, Nat.mul_one, List.getElem?_take_of_lt hj, Array.getElem?_toList] at e
    exact e

theorem drewN_heap (w : World) (q : Nat) : (w.drewN q).heap = w.heap := by
  induction q generalizing w with
  | zero => rfl
  | succ n ih => exact ih _

theorem OwnI.drewN {w : World} {B : Nat} {v : Value} {l : List Int} (h : OwnI w B v l) (q : Nat) : OwnI (w.drewN q) B v l := by
  unfold OwnI World.ownsRow
  rw [drewN_heap]
  exact h

/-- From one world to another nothing that was there is changed but the row of v; v' lies in that row, or in a new one. -/
structure Mv (w w' : World) (v v' : Value) : Prop where
  grown : w.grownBy w' v.ownBlock
  lies : ∀ b, v'.ownBlock = some b → v.ownBlock = some b ∨ w.heap.size ≤ b

theorem Mv.size {w w' : World} {v v' : Value} (h : Mv w w' v v') : w.heap.size ≤ w'.heap.size := h.grown.size

theorem Mv.ofBelow {w w' : World} (h : Below w.heap.size w w') (v : Value) : Mv w w' v v := ⟨⟨h.os, h.tape, h.output, h.size, fun k hk _ => h.block k hk⟩, fun _ hb => .inl hb⟩

theorem Mv.refl (w : World) (v : Value) : Mv w w v v := Mv.ofBelow (Below.refl _ _) v

theorem Mv.alloc (w : World) (v : Value) (X : Obj) : Mv w (w.alloc X) v v := Mv.ofBelow ((Below.refl _ _).alloc (Nat.le_refl _) X) v

theorem Mv.trans {w w1 w2 : World} {v v1 v2 : Value} (h1 : Mv w w1 v v1) (h2 : Mv w1 w2 v1 v2) : Mv w w2 v v2 := by
  have hs := h1.size
  refine ⟨⟨h2.grown.os.trans h1.grown.os, h2.grown.tape.trans h1.grown.tape, h2.grown.output.trans h1.grown.output, Nat.le_trans hs h2.size, fun k hk hne => ?_⟩, fun b hb => ?_⟩
  · rw [h2.grown.block k (by omega) (fun e => ?_)]
    · exact h1.grown.block k hk hne
    · rcases h1.lies k e.symm with h | h
      · exact hne h.symm
      · omega
  · rcases h2.lies b hb with h | h
    · exact h1.lies b h
    · exact .inr (by omega)

theorem Mv.drew {w w' : World} {v v' : Value} (h : Mv w w' v v') : Mv w w'.drew v v' := ⟨⟨h.grown.os, h.grown.tape, h.grown.output, h.grown.size, h.grown.block⟩, h.lies⟩

theorem Mv.below {w w' : World} {v v' : Value} (h : Mv w w' v v') {B : Nat} {l : List Int} (ho : OwnI w B v l) (hB : B ≤ w.heap.size) : Below B w w' :=
  ⟨h.grown.os, h.grown.tape, h.grown.output, h.size, fun k hk => h.grown.block k (by omega) (fun e => by have := (World.ownsRow.lt ho k e.symm).1; omega)⟩

theorem Mv.app {w w' : World} {v v' : Value} {N : Nat} (h : w.grownBy w' v.ownBlock) (hN : w.heap.size = N) (h2 : v'.ownBlock = v.ownBlock ∨ ∃ g, v'.ownBlock = some g ∧ N ≤ g) : Mv w w' v v' := by
  refine ⟨h, fun b hb => ?_⟩
  rcases h2 with h2 | ⟨g, h2, h3⟩
  · exact .inl (by rw [← h2]; exact hb)
  · rw [h2] at hb
    injection hb with hb
    exact .inr (by omega)

theorem setCells_other (g : Nat) : ∀ (vs : List Value) (o : Nat) (w : World) (k : Nat), k ≠ g → (w.setCells g o vs).heap[k]? = w.heap[k]?
  | [], _, _, _, _ => rfl
  | v :: r, o, w, k, h => by
    rw [World.setCells, setCells_other g r (o + 1) _ k h]
    exact Below.heap_setCell _ _ _ _ h

/-- Cells of the row are written. -/
theorem Mv.cells {w w' : World} {v : Value} {g n c n' c' : Nat} (h : Mv w w' v (.slice (some ⟨g, 0, none⟩) n c)) (o : Nat) (vs : List Value) : Mv w (w'.setCells g o vs) v (.slice (some ⟨g, 0, none⟩) n' c') := by
  have hb := belowCells (B := 0) (g := g) (a := w') (Nat.zero_le _) vs o w' (Below.refl _ _)
  refine ⟨⟨hb.os.trans h.grown.os, hb.tape.trans h.grown.tape, hb.output.trans h.grown.output, Nat.le_trans h.size hb.size, fun k hk hne => ?_⟩, fun b hb => h.lies b hb⟩
  rw [setCells_other g vs o w' k (fun e => ?_)]
  · exact h.grown.block k hk hne
  · rcases h.lies g rfl with h' | h'
    · exact hne (by rw [e, h'])
    · omega

/-- A new row. -/
theorem Mv.made {w w' : World} {v v0 : Value} (h : Mv w w' v v0) (X : Obj) (n c : Nat) : Mv w (w'.alloc X) v (.slice (some ⟨w'.heap.size, 0, none⟩) n c) := by
  have hb := (Below.refl w'.heap.size w').alloc (Nat.le_refl _) X
  refine ⟨⟨hb.os.trans h.grown.os, hb.tape.trans h.grown.tape, hb.output.trans h.grown.output, Nat.le_trans h.size hb.size, fun k hk hne => ?_⟩, fun b hb => .inr ?_⟩
  · rw [hb.block k (by have := h.size; omega)]
    exact h.grown.block k hk hne
  · have := ownBlock_is hb
    have := h.size
    omega

theorem Mv.drewN {w w' : World} {v v' : Value} (h : Mv w w' v v') (q : Nat) : Mv w (w'.drewN q) v v' := by
  have hb := below_drewN (Below.refl 0 w') q
  exact ⟨⟨hb.os.trans h.grown.os, hb.tape.trans h.grown.tape, hb.output.trans h.grown.output, Nat.le_trans h.size hb.size, fun k hk hne => by rw [drewN_heap]; exact h.grown.block k hk hne⟩, h.lies⟩

/-- One of one's own numbers is written. -/
theorem OwnI.put {w : World} {B : Nat} {v : Value} {l : List Int} (h : OwnI w B v l) (j : Nat) (hj : j < l.length) (n : Int) :
    ∃ g cap, v = .slice (some ⟨g, 0, none⟩) l.length cap ∧ w.cell? ⟨g, j, none⟩ = some (.int .i64 (l.getD j 0)) ∧ w.frozen? ⟨g, j, none⟩ = false ∧ B ≤ g ∧ g < w.heap.size ∧ OwnI (w.setCell ⟨g, j, none⟩ (.int .i64 n)) B v (l.set j n) ∧ Mv w (w.setCell ⟨g, j, none⟩ (.int .i64 n)) v v := by
  rcases h.row with ⟨_, h2⟩ | ⟨g, cap, cur, rfl, h2, hlt, h3, h4, h5, h6, h7⟩
  · subst h2; simp at hj
  · refine ⟨g, cap, rfl, ?_, frozen_of_row w g j _ _ h3, h2, hlt, ?_, (Mv.refl w (.slice (some ⟨g, 0, none⟩) l.length cap)).cells j [_]⟩
    · rw [cell_of_row w g j _ _ _ h3]
      exact h7 j hj
    · have e : l.length = (l.set j n).length := by simp
      rw [e]
      refine OwnI.ofRow h2 (heap_setCell_same w g j _ _ _ h3) (by rw [← e]; exact h4) h5 (by simpa using h6) (fun i hi => ?_)
      rw [← e] at hi
      by_cases hij : i = j
      · subst hij
        have : i < cur.size := by omega
        simp [this, List.getD, hi]
      · have hne : ¬ j = i := fun h => hij h.symm
        have := h7 i hi
        simp [hne, this, List.getD]

/-- Clone. -/
theorem cloneI_any (v : Value) (l : List Int) (w : World) (hr : RdI w v l) (hlim : l.length ≤ 1000000) :
    Calls Tryz.prog 32 #[v] w fun e w' => ∃ v', e = .returned v' ∧ OwnI w' w.heap.size v' l ∧ Below w.heap.size w w' := by
  obtain ⟨ao, cap, rfl, hlc, hcm, hn0, hi, hao⟩ := hr
  cases ao with
  | none =>
    have hc := hn0 rfl
    have hl : l = [] := List.eq_nil_of_length_eq_zero (by omega)
    subst hl
    refine Calls.mono (Any.slices_Clone_int_nil layM15 _ cap w) ?_
    rintro e w' ⟨rfl, rfl⟩
    exact ⟨_, rfl, OwnI.nil _ _, Below.refl _ _⟩
  | some a =>
    by_cases hl : l = []
    · subst hl
      refine Calls.mono (Any.slices_Clone_int_zero layM15 a cap w) ?_
      rintro e w' ⟨v', rfl, ho, _, hb⟩
      exact ⟨v', rfl, ho, hb⟩
    · rcases hao with hao | ⟨b, off, hab, hc⟩
      · exact absurd hao hl
      · injection hab with hab
        subst hab
        refine Calls.mono (Any.slices_Clone_int layM15 b off l.length cap l w (Nat.le_refl _) (by omega) hc) ?_
        rintro e w' ⟨v', rfl, ho, _, hb⟩
        refine ⟨v', rfl, ?_, hb⟩
        rw [List.take_length] at ho
        exact ho

/-- Equal. -/
theorem equalI_any (va : Value) (A : List Int) (vb : Value) (B : List Int) (w : World) (ha : RdI w va A) (hb : RdI w vb B) :
    Calls Tryz.prog 26 #[va, vb] w fun e w' => e = .returned (.bool (decide (A = B))) ∧ Below w.heap.size w w' := by
  obtain ⟨ao, cap, rfl, hlc, hcm, hn0, hi, hao⟩ := ha
  obtain ⟨bo, bcap, rfl, hlc', hcm', hn0', hi', hbo⟩ := hb
  by_cases hl : A.length = B.length
  · by_cases h0 : A.length = 0
    · have hA : A = [] := List.eq_nil_of_length_eq_zero h0
      have hB : B = [] := List.eq_nil_of_length_eq_zero (by omega)
      subst hA
      subst hB
      refine Calls.mono (Any.slices_Equal_int_empty layE ao bo cap 0 bcap w (by omega)) ?_
      rintro e w' ⟨rfl, rfl⟩
      exact ⟨rfl, Below.refl _ _⟩
    · rcases hao with hao | ⟨b1, o1, rfl, hc1⟩
      · rw [hao] at h0; simp at h0
      rcases hbo with hbo | ⟨b2, o2, rfl, hc2⟩
      · have e0 : B.length = 0 := by rw [hbo]; rfl
        omega
      have hcm1 : cap ≤ 9223372036854775807 := by unfold maxLen at hcm; omega
      have hcm2 : bcap ≤ 9223372036854775807 := by unfold maxLen at hcm'; omega
      refine Calls.mono (Any.slices_Equal_int layE b1 o1 A.length cap b2 o2 B.length bcap A B w (Nat.le_refl _) (Nat.le_refl _) (by omega) (by omega) hc1 hc2) ?_
      rintro e w' ⟨rfl, q, rfl⟩
      refine ⟨?_, below_drewN (Below.refl _ _) q⟩
      rw [List.take_length, List.take_length]
      by_cases h : A = B
      · rw [decide_eq_true h, beq_iff_eq.2 h]
      · rw [decide_eq_false h, beq_eq_false_iff_ne.2 h]
  · refine Calls.mono (Any.slices_Equal_int_lens layE ao bo A.length cap B.length bcap w hl) ?_
    rintro e w' ⟨rfl, rfl⟩
    exact ⟨by rw [decide_eq_false (fun h => hl (by rw [h]))], Below.refl _ _⟩

theorem get3 {α : Type} (A vs : List α) (i : Nat) (hi : i ≤ A.length) (j : Nat) : (A.take i ++ (vs ++ A.drop i))[j]? = if j < i then A[j]? else if j < i + vs.length then vs[j - i]? else A[j - vs.length]? := by
  have hl : (A.take i).length = i := by simp; omega
  by_cases h1 : j < i
  · rw [if_pos h1, List.getElem?_append_left (by omega), List.getElem?_take_of_lt h1]
  · rw [if_neg h1, List.getElem?_append_right (by omega), hl]
    by_cases h2 : j < i + vs.length
    · rw [if_pos h2, List.getElem?_append_left (by omega)]
    · rw [if_neg h2, List.getElem?_append_right (by omega), List.getElem?_drop]
      congr 1
      omega

theorem intCells_append (A B : List Int) : intCells (A ++ B) = intCells A ++ intCells B := by simp [intCells]
theorem intCells_take (A : List Int) (i : Nat) : intCells (A.take i) = (intCells A).take i := by simp [intCells]
theorem intCells_drop (A : List Int) (i : Nat) : intCells (A.drop i) = (intCells A).drop i := by simp [intCells]

theorem ins_cells (l : List Int) (i : Nat) (hi : i ≤ l.length) (x y : Int) (j : Nat) (hj : j < (l.take i ++ ([x, y] ++ l.drop i)).length) :
    some (.int .i64 ((l.take i ++ ([x, y] ++ l.drop i)).getD j 0)) = if j < i then (intCells l)[j]? else if j < i + 2 then [Value.int .i64 x, .int .i64 y][j - i]? else (intCells l)[j - 2]? := by
  rw [← intCells_get _ j hj, intCells_append, intCells_append, intCells_take, intCells_drop]
  exact get3 (intCells l) (intCells [x, y]) i (by rw [intCells_length]; exact hi) j

end Go.Proofs.YtgpdbboieokldaaGreat

/- Entries of one's own: written, cut, appended; contracts over entries of slices.Clone, Equal, IndexFunc, DeleteFunc. -/
namespace Go.Proofs.YtgpdbboieokldaaGreat
open Go.RowKit

/-- The row of entries of one's own. -/
theorem OwnE.row {w : World} {B : Nat} {v : Value} {l : List Ent} (h : OwnE w B v l) : (v = .slice none 0 0 ∧ l = []) ∨
    ∃ g cap cur, v = .slice (some ⟨g, 0, none⟩) l.length cap ∧ B ≤ g ∧ g < w.heap.size ∧ w.heap[g]? = some (.cells cur 48 (0, 0)) ∧ l.length ≤ cap ∧ cap ≤ maxLen ∧ cur.size = cap * 3 ∧ ∀ j, j < l.length * 3 → cur[j]? = (entCells l)[j]? := by
  rcases h.2 with ⟨hv, hn⟩ | ⟨g, cap, cur, hv, hb, hg, hnc, hcm, hcs, htake⟩
  · have e : l = [] := List.eq_nil_of_length_eq_zero hn
    subst e
    exact .inl ⟨hv, rfl⟩
  · refine .inr ⟨g, cap, cur, hv, hb, (Array.getElem?_eq_some_iff.1 hg).1, hg, hnc, hcm, hcs, fun j hj => ?_⟩
    rw [← htake, List.getElem?_take_of_lt hj, Array.getElem?_toList]

theorem OwnE.ofRow {w : World} {B g cap n : Nat} {cur : Array Value} {l : List Ent} (hn : n = l.length) (hB : B ≤ g) (hg : w.heap[g]? = some (.cells cur 48 (0, 0))) (hc : l.length ≤ cap) (hm : cap ≤ maxLen) (hs : cur.size = cap * 3) (hcell : ∀ j, j < l.length * 3 → cur[j]? = (entCells l)[j]?) :
    OwnE w B (.slice (some ⟨g, 0, none⟩) n cap) l := by
  subst hn
  refine ⟨by rw [entCells_length], .inr ⟨g, cap, cur, rfl, hB, hg, hc, hm, hs, ?_⟩⟩
  apply List.ext_getElem?
  intro j
  by_cases hj : j < l.length * 3
  · rw [List.getElem?_take_of_lt hj, Array.getElem?_toList]
    exact hcell j hj
  · rw [List.getElem?_eq_none (by simp; omega), List.getElem?_eq_none (by rw [entCells_length]; omega)]

theorem OwnE.empty (w : World) (B : Nat) (hB : B ≤ w.heap.size) : OwnE (w.alloc (.cells #[] 48)) B (.slice (some ⟨w.heap.size, 0, none⟩) 0 0) [] :=
  OwnE.ofRow (l := []) rfl hB (heap_alloc_new w _) (Nat.le_refl _) (Nat.zero_le _) rfl (fun j hj => absurd hj (by simp))

theorem entCells_take : ∀ (l : List Ent) (i : Nat), entCells (l.take i) = (entCells l).take (i * 3)
  | l, 0 => by simp [entCells]
  | [], i + 1 => by simp [entCells]
  | x :: t, i + 1 => by
    rw [List.take_succ_cons, show (i + 1) * 3 = i * 3 + 1 + 1 + 1 by omega]
    show Value.int .i64 x.proc :: .int .i64 x.seq :: .int .i64 x.resp :: entCells (t.take i) = (Value.int .i64 x.proc :: .int .i64 x.seq :: .int .i64 x.resp :: entCells t).take (i * 3 + 1 + 1 + 1)
    rw [entCells_take t i]
    rfl

theorem entCells_drop : ∀ (l : List Ent) (i : Nat), entCells (l.drop i) = (entCells l).drop (i * 3)
  | l, 0 => by simp
  | [], i + 1 => by simp [entCells]
  | x :: t, i + 1 => by
    rw [List.drop_succ_cons, show (i + 1) * 3 = i * 3 + 1 + 1 + 1 by omega]
    show entCells (t.drop i) = (Value.int .i64 x.proc :: .int .i64 x.seq :: .int .i64 x.resp :: entCells t).drop (i * 3 + 1 + 1 + 1)
    rw [entCells_drop t i]
    rfl

/-- A beginning of entries of one's own. -/
theorem OwnE.cut {w : World} {B g n cap : Nat} {l : List Ent} (h : OwnE w B (.slice (some ⟨g, 0, none⟩) n cap) l) (i : Nat) (hi : i ≤ l.length) : OwnE w B (.slice (some ⟨g, 0, none⟩) i cap) (l.take i) := by
  rcases h.row with ⟨h1, -⟩ | ⟨g', cap', cur, h1, hB, hlt, hg, hc, hm, hs, hcell⟩
  · cases h1
  · injection h1 with h1 h2 h3
    injection h1 with h1
    injection h1 with h1
    subst h1 h3
    exact OwnE.ofRow (by rw [List.length_take]; omega) hB hg (by rw [List.length_take]; omega) hm hs (fun j hj => by
      rw [List.length_take] at hj
      rw [hcell j (by omega), entCells_take, List.getElem?_take_of_lt (by omega)])

/-- Entries of one's own stay while cells behind them are written. -/
theorem OwnE.cells {w : World} {B g n cap : Nat} {l : List Ent} (h : OwnE w B (.slice (some ⟨g, 0, none⟩) n cap) l) (o : Nat) (ho : l.length * 3 ≤ o) (vs : List Value) : OwnE (w.setCells g o vs) B (.slice (some ⟨g, 0, none⟩) n cap) l := by
  rcases h.row with ⟨h1, -⟩ | ⟨g', cap', cur, h1, hB, hlt, hg, hc, hm, hs, hcell⟩
  · cases h1
  · injection h1 with h1 h2 h3
    injection h1 with h1
    injection h1 with h1
    subst h1 h3
    exact OwnE.ofRow h2 hB (heap_setCells g _ vs o w cur hg) hc hm (by rw [layC_size]; exact hs) (fun j hj => by
      rw [layC_get _ _ _ _ (by omega), if_neg (by omega)]
      exact hcell j hj)

/-- One entry written into a row of one's own. -/
theorem OwnE.put {w : World} {B g n cap : Nat} {l : List Ent} (h : OwnE w B (.slice (some ⟨g, 0, none⟩) n cap) l) (i : Nat) (hi : i < l.length) (e : Ent) : OwnE (w.setCells g (i * 3) (entCells [e])) B (.slice (some ⟨g, 0, none⟩) n cap) (l.set i e) := by
  rcases h.row with ⟨h1, -⟩ | ⟨g', cap', cur, h1, hB, hlt, hg, hc, hm, hs, hcell⟩
  · cases h1
  · injection h1 with h1 h2 h3
    injection h1 with h1
    injection h1 with h1
    subst h1 h3
    have hl3 : (entCells [e]).length = 3 := entCells_length [e]
    refine OwnE.ofRow (by rw [List.length_set]; exact h2) hB (heap_setCells g _ _ _ w cur hg) (by rw [List.length_set]; exact hc) hm (by rw [layC_size]; exact hs) (fun j hj => ?_)
    rw [List.length_set] at hj
    obtain ⟨q, k, hk, rfl⟩ : ∃ q k, k < 3 ∧ j = q * 3 + k := ⟨j / 3, j % 3, Nat.mod_lt _ (by decide), by omega⟩
    rw [layC_get _ _ _ _ (by omega), hl3, entCells_get (l.set i e) q k (by rw [List.length_set]; omega) hk]
    by_cases hq : q = i
    · subst hq
      rw [if_pos (by omega), show q * 3 + k - q * 3 = 0 * 3 + k by omega, entCells_get [e] 0 k (by simp) hk]
      congr 2
      simp [List.getD, hi]
    · rw [if_neg (by omega), hcell _ (by omega), entCells_get l q k (by omega) hk]
      congr 2
      have : ¬ i = q := fun h => hq h.symm
      simp [List.getD, this]

/-- The cells of entries that one reads. -/
theorem RdE.cells {w : World} {a : Addr} {n cap : Nat} {l : List Ent} (h : RdE w (.slice (some a) n cap) l) : ∀ j u, (entCells l)[j]? = some u → w.cell? (a.add j) = some u := by
  obtain ⟨ao, c, h1, h2, h3, hn, hw, h4⟩ := h
  injection h1 with h1 _ _
  subst h1
  intro j u hu
  have hj : j < l.length * 3 := by rw [← entCells_length]; exact (List.getElem?_eq_some_iff.1 hu).1
  rcases h4 with h4 | ⟨b, off, h5, h6⟩
  · rw [h4] at hj
    simp at hj
  · injection h5 with h5
    subst h5
    obtain ⟨q, k, hk, rfl⟩ : ∃ q k, k < 3 ∧ j = q * 3 + k := ⟨j / 3, j % 3, Nat.mod_lt _ (by decide), by omega⟩
    rw [entCells_get l q k (by omega) hk] at hu
    obtain ⟨c0, c1, c2⟩ := h6 q (by omega)
    rw [Addr.add_lit, ← Nat.add_assoc]
    match k, hk with
    | 0, _ => exact c0.trans hu
    | 1, _ => exact c1.trans hu
    | 2, _ => exact c2.trans hu

/-- Entries appended onto a row of one's own. -/
theorem run_append_ents (w : World) (ty : TypeId) (B : Nat) (v : Value) (l : List Ent) (h : OwnE w B v l) (vx : Value) (m : List Ent) (hr : RdE w vx m) (hlim : l.length + m.length ≤ 1000000) (hbase : B ≤ w.heap.size) :
    ∃ v' w', (Builtin.append_ #[23, 23] ty #[v, vx]).run Tryz.prog w = .ok v' w' ∧ OwnE w' B v' (l ++ m) ∧ Below B w w' := by
  obtain ⟨i0, hi, hz0, hz1, hz2⟩ := info_parts info_ent
  have hr' := hr
  obtain ⟨ao, cap, rfl, hlc, hcm, hn0, hw, hao⟩ := hr
  cases ao with
  | none =>
    have hc := hn0 rfl
    subst hc
    have hl : m = [] := List.eq_nil_of_length_eq_zero (by omega)
    subst hl
    have hrun := run_append_owned_none (P := Tryz.prog) w B 23 ty 48 i0 3 Tryz.underlying23 hi v l.length (entCells l) h
    exact ⟨v, w, hrun, by rw [List.append_nil]; exact h, Below.refl _ _⟩
  | some a =>
    obtain ⟨v', w', hrun, ho, hg, _⟩ := run_append_own (P := Tryz.prog) w B 23 ty 48 i0 _ 3 24 Tryz.underlying23 hi hz0 hz1 hz2 rfl (by decide) v l.length (entCells l) h
      a m.length cap (entCells m) (entCells_length m) hr'.cells (entCells_one m) (by unfold maxLen; omega) (by omega) hbase
    refine ⟨v', w', hrun, ?_, ?_⟩
    · unfold OwnE
      rw [List.length_append, entCells_app]
      exact ho
    · exact (Below.refl _ _).grown hg hbase (fun k hk => (World.ownsRow.lt h k hk).1)

theorem wpList_append_ents (w : World) {ops : Array Oper} {rest : List Oper} {o : Oper} {a : Act} {Q : Exit → Act → World → Prop} (hgd : o.guard = none) (s x : Operand)
    (ho : o.op = .call { callee := .builtin .append, args := #[s, x], argTypes := #[23, 23] })
    (B : Nat) (v : Value) (l : List Ent) (hs : a.eval s = v) (hown : OwnE w B v l) (vx : Value) (m : List Ent) (hx : a.eval x = vx) (hr : RdE w vx m)
    (hlim : l.length + m.length ≤ 1000000) (hbase : B ≤ w.heap.size)
    (h : ∀ v' w', OwnE w' B v' (l ++ m) → Below B w w' → wpList Tryz.prog ops Q rest (a.put o.dst v') w') : wpList Tryz.prog ops Q (o :: rest) a w :=
  wpList_plain hgd fun _ hK => by
    obtain ⟨v', w', hrun, h2, h3⟩ := run_append_ents w o.type B v l hown vx m hr hlim hbase
    unfold Oper.wp execOp
    simp only [ho, resolve, invoke, builtin, Sem.run_bind, Sem.run_pure, Result.andThen_ok, List.map_toArray, List.map_cons, List.map_nil, hs, hx, hrun]
    exact hK _ _ (h v' w' h2 h3)

set_option maxRecDepth 100000 in
set_option maxHeartbeats 1000000 in
theorem cloneE_any (v : Value) (l : List Ent) (w : World) (hr : RdE w v l) (hlim : l.length ≤ 1000000) :
    Calls Tryz.prog 77 #[v] w fun e w' => ∃ v', e = .returned v' ∧ OwnE w' w.heap.size v' l ∧ Below w.heap.size w w' := by
  have HR := hide hr
  obtain ⟨ao, cap, rfl, hlc, -, hn, -⟩ := hr
  cases ao with
  | none =>
    obtain rfl : cap = 0 := hn rfl
    obtain rfl : l = [] := List.eq_nil_of_length_eq_zero (by omega)
    clear hn hlc
    have hnil : ∀ w, (binOp .eql 23 (.slice none 0 0) (.slice none 0 0)).run Tryz.prog w = .ok (.bool true) w := fun w => run_eql_slice_nil w _ _ none 0 0 Tryz.underlying23
    go_enter Tryz.func77, Tryz.ntmps77
    go_wp2
    go_ret
    exact ⟨_, rfl, OwnE.nil _ _, Below.refl _ _⟩
  | some a =>
    clear hn
    have hnil : ∀ w, (binOp .eql 23 (.slice (some a) l.length cap) (.slice none 0 0)).run Tryz.prog w = .ok (.bool false) w := fun w => run_eql_slice_nil w _ _ (some a) _ _ Tryz.underlying23
    have HB0 : Hid (∀ X, Below w.heap.size w (w.alloc X)) := fun X => (Below.refl _ _).alloc (Nat.le_refl _) X
    have HO0 : Hid (OwnE (w.alloc (.cells #[] 48)) w.heap.size (.slice (some ⟨w.heap.size, 0, none⟩) 0 0) []) := hide (OwnE.empty w _ (Nat.le_refl _))
    go_enter Tryz.func77, Tryz.ntmps77
    go_wp2_with (at_builtin; refine wpList_append_ents _ rfl _ _ rfl w.heap.size _ [] rfl HO0.out _ l rfl (HR.out.below (HB0.out _) (Nat.le_refl _)) (by simp; omega) (by simp) ?_)
    intro v1 W1 ho1 hb1
    have HO1 := hide ho1
    have HB1 := hide ((HB0.out _).trans hb1)
    clear ho1 hb1
    go_wp2
    go_ret
    exact ⟨_, rfl, HO1.out, HB1.out⟩

/-- Where the first entry stands that p holds of, or -1. -/
def FoundE (p : Ent → Bool) (l : List Ent) (k : Int) : Prop := (k = -1 ∧ ∀ j, j < l.length → p (l.getD j zeroE) = false) ∨ ∃ i : Nat, k = (i : Int) ∧ i < l.length ∧ (∀ j, j < i → p (l.getD j zeroE) = false) ∧ p (l.getD i zeroE) = true

set_option maxRecDepth 100000 in
set_option maxHeartbeats 2000000 in
theorem indexFuncE_any (g R : Nat) (p : Ent → Bool) (v : Value) (l : List Ent) (w : World) (hr : RdE w v l)
    (eg : ∀ args W, (callFunc g args).run Tryz.prog W = .ok (.enter g args) W)
    (hp : ∀ W e, Below w.heap.size w W → Calls Tryz.prog g #[entV e, .pointer (some ⟨R, 0, none⟩)] W fun x w' => x = .returned (.bool (p e)) ∧ Below W.heap.size W w') :
    Calls Tryz.prog 95 #[v, .func (.func g) #[] #[.pointer (some ⟨R, 0, none⟩)]] w fun x w' => ∃ k : Int, x = .returned (.int .i64 k) ∧ FoundE p l k ∧ Below w.heap.size w w' := by
  have HR := hide hr
  have HP := hide hp
  obtain ⟨va, vc, rfl, hlc, hcm, -, -, hao⟩ := hr
  have HAO := hide hao
  have hml : (l.length : Int) ≤ 9223372036854775807 := by unfold maxLen at hcm; omega
  clear hp hlc hcm hao
  go_enter Tryz.func95, Tryz.ntmps95
  go_wp2
  go_loopw [8] (fun vi wr => ∃ q : Nat, vi = .int .i64 (q : Int) ∧ q ≤ l.length ∧ Hid (∀ j, j < q → p (l.getD j zeroE) = false) ∧ Hid (Below w.heap.size w wr)) (fun vi _ => l.length - (intOf vi).toNat)
  case atStart => exact ⟨0, rfl, Nat.zero_le _, hide (fun j hj => absurd hj (Nat.not_lt_zero _)), Below.refl _ _⟩
  case round =>
    obtain ⟨q, rfl, hq, hN, hB⟩ := hrel
    by_cases hlt : q < l.length
    case neg =>
      obtain rfl : q = l.length := by omega
      go_wp2
      go_ret
      exact ⟨-1, rfl, .inl ⟨rfl, hN.out⟩, hB.out⟩
    have hqi : (q : Int) < (l.length : Int) := by omega
    rcases HAO.out with h0 | ⟨b, off, rfl, hc⟩
    · rw [h0] at hlt; simp at hlt
    obtain ⟨c0, c1, c2⟩ := (hc q hlt).keep (hB.out.block b (hc q hlt).lt)
    have HC := hide (HP.out wr (l.getD q zeroE) hB.out)
    have HX : Hid (∀ j, j < q + 1 → j = q ∨ j < q) := hide (fun j hj => by omega)
    obtain ⟨e, he⟩ : ∃ e, e = l.getD q zeroE := ⟨_, rfl⟩
    rw [← he] at HC c0 c1 c2
    have HE := hide he
    obtain ⟨pe, hpe⟩ : ∃ pe, pe = p e := ⟨_, rfl⟩
    rw [← hpe] at HC
    have HPE := hide hpe
    clear he hc HP HAO HR hpe
    unfold entV at HC
    obtain ⟨ep, es, er⟩ := e
    simp only at HC c0 c1 c2
    go_wp2_with fail
    refine HC.out.mono ?_
    rintro x W1 ⟨rfl, hb1⟩
    have HB1 := hide (hB.out.trans (hb1.mono hB.out.size))
    clear hb1 HC
    cases pe with
    | true =>
      go_wp2
      go_ret
      exact ⟨(q : Int), rfl, .inr ⟨q, rfl, hlt, hN.out, by rw [← HE.out]; exact HPE.out.symm⟩, HB1.out⟩
    | false =>
      go_wp2
      go_roundw
      case rel => exact ⟨q + 1, by go_num, by omega, hide (fun j hj => by
        rcases HX.out j hj with h | h
        · rw [h, ← HE.out]; exact HPE.out.symm
        · exact hN.out j h), HB1⟩
      case measure => simp [intOf]; omega

end Go.Proofs.YtgpdbboieokldaaGreat

/- Contracts of delta: hasProcs, newEntries; over entries slices.ContainsFunc. -/
namespace Go.Proofs.YtgpdbboieokldaaGreat
open Go.RowKit

theorem found_any {p : Ent → Bool} {l : List Ent} {k : Int} (h : FoundE p l k) : decide (0 ≤ k) = l.any p := by
  rcases h with ⟨rfl, h⟩ | ⟨i, rfl, hi, -, h2⟩
  · have : l.any p = false := by
      rw [List.any_eq_false]
      intro x hx
      obtain ⟨j, hj, rfl⟩ := List.getElem_of_mem hx
      have := h j hj
      simpa [List.getD, hj] using this
    rw [this]
    decide
  · have : l.any p = true := by
      rw [List.any_eq_true]
      exact ⟨l[i], List.getElem_mem hi, by simpa [List.getD, hi] using h2⟩
    rw [this]
    exact decide_eq_true (by omega)

set_option maxRecDepth 100000 in
set_option maxHeartbeats 2000000 in
theorem containsFuncE_any (g R : Nat) (p : Ent → Bool) (v : Value) (l : List Ent) (w : World) (hr : RdE w v l)
    (eg : ∀ args W, (callFunc g args).run Tryz.prog W = .ok (.enter g args) W)
    (hp : ∀ W e, Below w.heap.size w W → Calls Tryz.prog g #[entV e, .pointer (some ⟨R, 0, none⟩)] W fun x w' => x = .returned (.bool (p e)) ∧ Below W.heap.size W w') :
    Calls Tryz.prog 71 #[v, .func (.func g) #[] #[.pointer (some ⟨R, 0, none⟩)]] w fun x w' => x = .returned (.bool (l.any p)) ∧ Below w.heap.size w w' := by
  have HIX := hide (indexFuncE_any g R p v l w hr eg hp)
  obtain ⟨va, vc, hv⟩ := hr.shape
  subst hv
  have HF := hide (fun k h => found_any (p := p) (l := l) (k := k) h)
  generalize l.any p = AN at *
  clear hr hp
  go_enter Tryz.func71, Tryz.ntmps71
  go_wp2_with fail
  refine HIX.out.mono ?_
  rintro x W1 ⟨k, rfl, hk, hb1⟩
  have HK := hide (HF.out k hk)
  have HB1 := hide hb1
  clear hk hb1 HIX
  go_wp2
  go_ret
  rw [← HK.out]
  exact ⟨rfl, HB1.out⟩

set_option maxRecDepth 100000 in
set_option maxHeartbeats 1000000 in
theorem procs11_any (e : Ent) (R : Nat) (o : Ent) (W : World) (hb : Be W R (entC e)) :
    Calls Tryz.prog 70 #[entV o, .pointer (some ⟨R, 0, none⟩)] W fun x w' => x = .returned (.bool (decide (o.proc = e.proc))) ∧ Below W.heap.size W w' := by
  have HB0 : Hid (∀ X, Below W.heap.size W (W.alloc X)) := fun X => (Below.refl _ _).alloc (Nat.le_refl _) X
  have hlt : R < W.heap.size := hb.lt
  have HC : Hid (∀ X, (W.alloc X).cell? ⟨R, 0, none⟩ = some (.int .i64 e.proc)) := hide (fun X => by
    rw [(HB0.out X).cell (p := ⟨R, 0, none⟩) hlt]
    exact cell_of_row W R 0 _ _ _ hb)
  obtain ⟨ep, es, er⟩ := o
  unfold entV
  simp only
  have hc := HC.out
  generalize e.proc = rp at *
  clear hb HC
  by_cases h : ep = rp
  · have HE : Hid (decide (ep = rp) = true) := decide_eq_true h
    have h' : (ep == rp) = true := beq_iff_eq.2 h
    rw [HE.out]
    clear HE h
    go_enter Tryz.func70, Tryz.ntmps70
    go_wp2
    go_ret
    exact ⟨rfl, HB0.out _⟩
  · have HE : Hid (decide (ep = rp) = false) := decide_eq_false h
    have h' : (ep == rp) = false := beq_eq_false_iff_ne.2 h
    rw [HE.out]
    clear HE h
    go_enter Tryz.func70, Tryz.ntmps70
    go_wp2
    go_ret
    exact ⟨rfl, HB0.out _⟩

/-- A box of one slice of entries. -/
def Bt (w : World) (b : Nat) (v : Value) : Prop := w.heap[b]? = some (.cells #[v] 23 (0, 0))

theorem Bt.lt {w : World} {b : Nat} {v : Value} (h : Bt w b v) : b < w.heap.size := (Array.getElem?_eq_some_iff.1 h).1

theorem Bt.below {w w' : World} {b B : Nat} {v : Value} (h : Bt w b v) (hb : Below B w w') (hB : w.heap.size ≤ B) : Bt w' b v := (hb.block b (by have := h.lt; omega)).trans h

theorem Bt.cell {w : World} {b : Nat} {v : Value} (h : Bt w b v) : w.cell? ⟨b, 0, none⟩ = some v := cell_of_row w b 0 _ _ _ h

set_option maxRecDepth 100000 in
set_option maxHeartbeats 1000000 in
theorem procs1_any (v : Value) (t : List Ent) (S : Nat) (e : Ent) (W : World) (ht : RdE W v t) (hS : Bt W S v) :
    Calls Tryz.prog 69 #[entV e, .pointer (some ⟨S, 0, none⟩)] W fun x w' => x = .returned (.bool (!(t.any fun o => decide (o.proc = e.proc)))) ∧ Below W.heap.size W w' := by
  obtain ⟨W0, hW0⟩ : ∃ W0, W0 = W.alloc (.cells (entC e) 48) := ⟨_, rfl⟩
  have hB0 : Below W.heap.size W W0 := by rw [hW0]; exact (Below.refl _ _).alloc (Nat.le_refl _) _
  have hE : Be W0 W.heap.size (entC e) := by rw [hW0]; exact heap_alloc_new W _
  have eg : ∀ args W, (callFunc 70 args).run Tryz.prog W = .ok (.enter 70 args) W := enters_of Tryz.func70 (by kernel_rfl) rfl
  have HCF := hide (containsFuncE_any 70 W.heap.size (fun o => decide (o.proc = e.proc)) v t W0 (ht.below hB0 (Nat.le_refl _)) eg (fun W' o h => procs11_any e W.heap.size o W' (hE.below h (Nat.le_refl _))))
  have hc := (hS.below hB0 (Nat.le_refl _)).cell
  have HB0 := hide hB0
  have HW0 := hide hW0
  have hmf : ∀ (fn : Fn) (first cap : Array Value) (w : World), (Instr.makeFunc fn first cap).run Tryz.prog w = .ok (.func fn first cap) w := fun _ _ _ _ => rfl
  obtain ⟨va, vc, hv⟩ := ht.shape
  subst hv
  generalize (t.any fun o => decide (o.proc = e.proc)) = AN at *
  clear hB0 hE eg hW0 hS ht
  obtain ⟨ep, es, er⟩ := e
  unfold entV
  unfold entC at HW0
  dsimp only at HW0 ⊢
  go_enter Tryz.func69, Tryz.ntmps69
  go_upto_region 1 with fail
  rw [← HW0.out]
  clear HW0
  go_wp2_with fail
  refine HCF.out.mono ?_
  rintro x W1 ⟨rfl, hb1⟩
  have HB1 := hide (HB0.out.trans (hb1.mono HB0.out.size))
  clear hb1 HCF
  go_wp2
  go_ret
  exact ⟨rfl, HB1.out⟩

theorem covers_any (now old : List Ent) : (!(old.any fun e => !(now.any fun o => decide (o.proc = e.proc)))) = decide (Covers old now) := by
  rw [Bool.eq_iff_iff, decide_eq_true_eq]
  unfold Covers
  simp

set_option maxRecDepth 100000 in
set_option maxHeartbeats 1000000 in
theorem hasProcs_any (vn : Value) (now : List Ent) (vo : Value) (old : List Ent) (w : World) (hn : RdE w vn now) (ho : RdE w vo old) :
    Calls Tryz.prog 29 #[vn, vo] w fun x w' => x = .returned (.bool (decide (Covers old now))) ∧ Below w.heap.size w w' := by
  obtain ⟨W0, hW0⟩ : ∃ W0, W0 = w.alloc (.cells #[vn] 23) := ⟨_, rfl⟩
  have hB0 : Below w.heap.size w W0 := by rw [hW0]; exact (Below.refl _ _).alloc (Nat.le_refl _) _
  have hS : Bt W0 w.heap.size vn := by rw [hW0]; exact heap_alloc_new w _
  have eg : ∀ args W, (callFunc 69 args).run Tryz.prog W = .ok (.enter 69 args) W := enters_of Tryz.func69 (by kernel_rfl) rfl
  have hnW := hn.below hB0 (Nat.le_refl _)
  have HCF := hide (containsFuncE_any 69 w.heap.size (fun e => !(now.any fun o => decide (o.proc = e.proc))) vo old W0 (ho.below hB0 (Nat.le_refl _)) eg (fun W' e h => procs1_any vn now w.heap.size e W' (hnW.below h (Nat.le_refl _)) (hS.below h (Nat.le_refl _))))
  have HB0 := hide hB0
  have HW0 := hide hW0
  have hmf : ∀ (fn : Fn) (first cap : Array Value) (w : World), (Instr.makeFunc fn first cap).run Tryz.prog w = .ok (.func fn first cap) w := fun _ _ _ _ => rfl
  have HD := hide (covers_any now old)
  obtain ⟨na, nc, hv⟩ := hn.shape
  subst hv
  obtain ⟨oa, oc, hv⟩ := ho.shape
  subst hv
  obtain ⟨D, hD⟩ : ∃ D, D = decide (Covers old now) := ⟨_, rfl⟩
  rw [← hD] at HD ⊢
  generalize (old.any fun e => !(now.any fun o => decide (o.proc = e.proc))) = AN at *
  clear hD hB0 hS eg hnW hn ho hW0
  go_enter Tryz.func29, Tryz.ntmps29
  go_upto_region 1 with fail
  rw [← HW0.out]
  clear HW0
  go_wp2_with fail
  refine HCF.out.mono ?_
  rintro x W1 ⟨rfl, hb1⟩
  have HB1 := hide (HB0.out.trans (hb1.mono HB0.out.size))
  clear hb1 HCF
  go_wp2
  go_ret
  rw [← HD.out]
  exact ⟨rfl, HB1.out⟩

set_option maxRecDepth 100000 in
set_option maxHeartbeats 1000000 in
theorem newEntries1_any (e : Ent) (R : Nat) (o : Ent) (W : World) (hb : Be W R (entC e)) :
    Calls Tryz.prog 75 #[entV o, .pointer (some ⟨R, 0, none⟩)] W fun x w' => x = .returned (.bool (eqEnt o e)) ∧ Below W.heap.size W w' := by
  have HB0 : Hid (∀ X, Below W.heap.size W (W.alloc X)) := fun X => (Below.refl _ _).alloc (Nat.le_refl _) X
  have HE : Hid (∀ X, Be (W.alloc X) R (entC e)) := hide (fun X => hb.below (HB0.out X) (Nat.le_refl _))
  have hgd := guard_ent
  have heq := fun W => eql_ent W o e
  have hc0 := fun X => ((HE.out X).cell 0).1
  have hc1 := fun X => ((HE.out X).cell 1).1
  have hc2 := fun X => ((HE.out X).cell 2).1
  generalize eqEnt o e = EQ at *
  clear hb HE
  obtain ⟨op, os, or⟩ := o
  obtain ⟨ep, es, er⟩ := e
  unfold entV
  unfold entC at hc0 hc1 hc2
  dsimp only at *
  go_enter Tryz.func75, Tryz.ntmps75
  go_wp2
  go_ret
  exact ⟨rfl, HB0.out _⟩

theorem diffT_snoc {a b : List Ent} {k : Nat} (h : k < b.length) : diffT a (b.take (k + 1)) = if b.getD k zeroE ∈ a then diffT a (b.take k) else diffT a (b.take k) ++ [b.getD k zeroE] := by
  rw [takeE_snoc h]
  unfold diffT
  rw [List.filter_append]
  generalize b.getD k zeroE = e
  by_cases hm : e ∈ a
  · rw [if_pos hm]
    simp [hm]
  · rw [if_neg hm]
    simp [hm]

theorem any_mem (a : List Ent) (e : Ent) : (a.any fun o => eqEnt o e) = decide (e ∈ a) := by
  rw [Bool.eq_iff_iff]
  simp only [List.any_eq_true, decide_eq_true_eq]
  constructor
  · rintro ⟨o, ho, h⟩
    rw [← (eqEnt_iff _ _).1 h]
    exact ho
  · intro h
    exact ⟨e, h, eqEnt_self e⟩

theorem diffT_len (a b : List Ent) : (diffT a b).length ≤ b.length := List.length_filter_le _ _

set_option maxRecDepth 100000 in
set_option maxHeartbeats 4000000 in
theorem newEntries_any (vo : Value) (old : List Ent) (vn : Value) (now : List Ent) (w : World) (ho : RdE w vo old) (hn : RdE w vn now) (hlim : now.length ≤ 1000000) :
    Calls Tryz.prog 33 #[vo, vn] w fun x w' => ∃ v', x = .returned v' ∧ OwnE w' w.heap.size v' (diffT old now) ∧ Below w.heap.size w w' := by
  have eg : ∀ args W, (callFunc 75 args).run Tryz.prog W = .ok (.enter 75 args) W := enters_of Tryz.func75 (by kernel_rfl) rfl
  have HCF : Hid (∀ W R e, RdE W vo old → Be W R (entC e) → Calls Tryz.prog 71 #[vo, .func (.func 75) #[] #[.pointer (some ⟨R, 0, none⟩)]] W fun x w' => x = .returned (.bool (decide (e ∈ old))) ∧ Below W.heap.size W w') := hide (fun W R e hr hb => by
    have h := containsFuncE_any 75 R (fun o => eqEnt o e) vo old W hr eg (fun W' o h => newEntries1_any e R o W' (hb.below h (Nat.le_refl _)))
    rw [any_mem] at h
    exact h)
  have HO := hide ho
  have hmf : ∀ (fn : Fn) (first cap : Array Value) (w : World), (Instr.makeFunc fn first cap).run Tryz.prog w = .ok (.func fn first cap) w := fun _ _ _ _ => rfl
  obtain ⟨oa, oc, hv⟩ := ho.shape
  subst hv
  obtain ⟨na, nc, rfl, -, hcm, -, -, hao⟩ := hn
  have HAO := hide hao
  have HDN := hide (fun k h => diffT_snoc (a := old) (b := now) (k := k) h)
  have HDL : Hid (∀ k, (diffT old (now.take k)).length ≤ now.length) := hide (fun k => Nat.le_trans (diffT_len _ _) (by rw [List.length_take]; omega))
  have HD0 : Hid (diffT old (now.take 0) = []) := hide rfl
  have HDE : Hid (∀ k, now.length ≤ k → diffT old (now.take k) = diffT old now) := hide (fun k h => by rw [List.take_of_length_le h])
  have hmi : (now.length : Int) ≤ 1000000 := by omega
  generalize diffT old now = DT at *
  clear eg ho hao hcm
  go_enter Tryz.func33, Tryz.ntmps33
  go_wp2
  go_loopw [5, 11] (fun vo vi wr => ∃ k : Nat, vi = .int .i64 (k : Int) ∧ k ≤ now.length ∧ Hid (OwnE wr w.heap.size vo (diffT old (now.take k))) ∧ Hid (Below w.heap.size w wr)) (fun _ vi _ => now.length - (intOf vi).toNat)
  case atStart => exact ⟨0, rfl, Nat.zero_le _, hide (by rw [HD0.out]; exact OwnE.nil _ _), Below.refl _ _⟩
  case round =>
    obtain ⟨k, rfl, hk, hO, hB⟩ := hrel
    by_cases hlt : k < now.length
    case neg =>
      have hni : ¬ (k : Int) < (now.length : Int) := by omega
      rw [HDE.out k (by omega)] at hO
      go_wp2
      go_ret
      exact ⟨_, rfl, hO.out, hB.out⟩
    have hki : (k : Int) < (now.length : Int) := by omega
    rcases HAO.out with h0 | ⟨c, off, rfl, hc⟩
    · rw [h0] at hlt; simp at hlt
    obtain ⟨c0, c1, c2⟩ := (hc k hlt).keep (hB.out.block c (hc k hlt).lt)
    have HNX := hide (HDN.out k hlt)
    have hDL := HDL.out k
    generalize diffT old (now.take k) = DK at *
    obtain ⟨va, vc, hv⟩ := hO.out.shape
    subst hv
    obtain ⟨e, he⟩ : ∃ e, e = now.getD k zeroE := ⟨_, rfl⟩
    rw [← he] at HNX c0 c1 c2
    obtain ⟨W0, hW0⟩ : ∃ W0, W0 = wr.alloc (.cells (entC e) 48) := ⟨_, rfl⟩
    have hB0 : Below wr.heap.size wr W0 := by rw [hW0]; exact (Below.refl _ _).alloc (Nat.le_refl _) _
    have hE : Be W0 wr.heap.size (entC e) := by rw [hW0]; exact heap_alloc_new wr _
    have HC := hide (HCF.out W0 wr.heap.size e ((HO.out.below hB.out (Nat.le_refl _)).below hB0 (Nat.le_refl _)) hE)
    have HE0 := hide hE
    have HB0 := hide (hB.out.trans (hB0.mono hB.out.size))
    have HO0 := hide (hO.out.below hB0 (Nat.le_refl _))
    have HW0 := hide hW0
    obtain ⟨m, hm⟩ : ∃ m, m = decide (e ∈ old) := ⟨_, rfl⟩
    rw [← hm] at HC
    have HM := hide hm
    clear he hc HAO HCF HDN HDL HD0 HDE hB0 hE hW0 hm hO HO
    obtain ⟨ep, es, er⟩ := e
    unfold entC at HW0 HE0
    dsimp only at *
    go_upto_region 5 with fail
    rw [← HW0.out]
    clear HW0
    go_wp2_with fail
    refine HC.out.mono ?_
    rintro x W1 ⟨rfl, hb1⟩
    have HB1 := hide (HB0.out.trans (hb1.mono HB0.out.size))
    have HE1 := hide (HE0.out.below hb1 (Nat.le_refl _))
    have HO1 := hide (HO0.out.below hb1 (Nat.le_refl _))
    clear hb1 HC HB0 HE0 HO0
    cases m with
    | true =>
      rw [if_pos (of_decide_eq_true HM.out.symm)] at HNX
      go_wp2
      go_roundw
      case rel => exact ⟨k + 1, by go_num, by omega, hide (by rw [HNX.out]; exact HO1.out), HB1⟩
      case measure => simp [intOf]; omega
    | false =>
      rw [if_neg (of_decide_eq_false HM.out.symm)] at HNX
      obtain ⟨q0, -⟩ := HE1.out.cell 0
      obtain ⟨q1, -⟩ := HE1.out.cell 1
      obtain ⟨q2, -⟩ := HE1.out.cell 2
      have hs1 := HB1.out.size
      go_wp2_with (at_builtin; refine wpList_append_ent _ rfl _ _ rfl w.heap.size _ DK rfl HO1.out ⟨ep, es, er⟩ rfl (by omega) hs1 ?_)
      intro v5 W5 ho5 hb5
      have HO5 := hide ho5
      have HB5 := hide (HB1.out.trans hb5)
      clear ho5 hb5
      go_wp2
      go_roundw
      case rel => exact ⟨k + 1, by go_num, by omega, hide (by rw [HNX.out]; exact HO5.out), HB5⟩
      case measure => simp [intOf]; omega

end Go.Proofs.YtgpdbboieokldaaGreat

/- Contracts of objs: within and what it answers, cut, full. -/
namespace Go.Proofs.YtgpdbboieokldaaGreat
open Go.RowKit

set_option maxRecDepth 100000 in
/-- What lies from lo to hi. -/
theorem is_any (n lo hi : Int) (a b : Nat) (w : World) (ha : w.cell? ⟨a, 0, none⟩ = some (.int .i64 lo)) (hb : w.cell? ⟨b, 0, none⟩ = some (.int .i64 hi)) :
    Calls Tryz.prog 104 #[.int .i64 n, .pointer (some ⟨a, 0, none⟩), .pointer (some ⟨b, 0, none⟩)] w fun e w' => e = .returned (.bool (decide (lo ≤ n ∧ n ≤ hi))) ∧ w' = w := by
  have HD : Hid ((decide (lo ≤ n) && decide (n ≤ hi)) = decide (lo ≤ n ∧ n ≤ hi)) := (Bool.decide_and _ _).symm
  have HT : Hid (lo ≤ n → decide (n ≤ hi) = decide (lo ≤ n ∧ n ≤ hi)) := fun h => by rw [← HD.out, decide_eq_true h, Bool.true_and]
  by_cases h1 : lo ≤ n
  · go_enter Tryz.func104, Tryz.ntmps104
    go_wp2
    go_ret
    exact ⟨ret_b (HT.out h1), rfl⟩
  · go_enter Tryz.func104, Tryz.ntmps104
    go_wp2
    go_ret
    exact ⟨ret_b (by rw [decide_eq_false (Int.not_le.2 h1), Bool.false_and]), rfl⟩

set_option maxRecDepth 100000 in
theorem within_any (lo hi : Int) (w : World) :
    Calls Tryz.prog 92 #[.int .i64 lo, .int .i64 hi] w fun e w' => ∃ a b, e = .returned (.func (.func 104) #[] #[.pointer (some ⟨a, 0, none⟩), .pointer (some ⟨b, 0, none⟩)]) ∧ w'.cell? ⟨a, 0, none⟩ = some (.int .i64 lo) ∧ w'.cell? ⟨b, 0, none⟩ = some (.int .i64 hi) ∧ Below w.heap.size w w' := by
  have hmf : ∀ (fn : Fn) (first cap : Array Value) (w : World), (Instr.makeFunc fn first cap).run Tryz.prog w = .ok (.func fn first cap) w := fun _ _ _ _ => rfl
  have HB : Hid (∀ x y, Below w.heap.size w ((w.alloc x).alloc y)) := fun x y => ((Below.refl _ _).alloc (Nat.le_refl _) x).alloc (by simp) y
  go_enter Tryz.func92, Tryz.ntmps92
  go_wp2
  go_ret
  refine ⟨_, _, rfl, ?_, ?_, HB.out _ _⟩
  · rw [World.cell?_alloc_past _ _ _ (by simp), World.cell?_alloc_at _ _ _ _ rfl]; rfl
  · rw [World.cell?_alloc_at _ _ _ _ (by simp)]; rfl

theorem cut_maxmin (n : Int) : max (-1099511627776) (min n 1099511627776) = cutZ n := by
  unfold cutZ
  split
  · omega
  · split <;> omega

end Go.Proofs.YtgpdbboieokldaaGreat

/- Contracts of objs: mayLine, mayPairs. -/
namespace Go.Proofs.YtgpdbboieokldaaGreat
open Go.RowKit

set_option maxRecDepth 100000 in
set_option maxHeartbeats 1000000 in
theorem mayLine_any (v : Value) (l : List Int) (a b : Nat) (w : World) (hr : RdI w v l) (ha : w.cell? ⟨a, 0, none⟩ = some (.int .i64 (-1099511627776))) (hb : w.cell? ⟨b, 0, none⟩ = some (.int .i64 1099511627776)) :
    Calls Tryz.prog 105 #[v, .func (.func 104) #[] #[.pointer (some ⟨a, 0, none⟩), .pointer (some ⟨b, 0, none⟩)]] w fun e w' => e = .returned (.bool (decide (l.length ≤ 64 ∧ InBounds l))) ∧ w' = w := by
  have HI := hide' (fun n => is_any n _ _ a b w ha hb)
  obtain ⟨ao, cap, rfl, -, -, -, -, hao⟩ := hr
  have HAO := hide' hao
  clear hao ha hb
  obtain ⟨R, hR⟩ : ∃ R, R = decide (l.length ≤ 64 ∧ InBounds l) := ⟨_, rfl⟩
  rw [← hR]
  have HR := hide' hR
  clear hR
  by_cases h64 : l.length ≤ 64
  · have hq : ¬ (64 < (l.length : Int)) := by omega
    go_enter Tryz.func105, Tryz.ntmps105
    go_wp2
    go_loop [12] (fun i => ∃ k : Nat, i = .int .i64 k ∧ k ≤ l.length ∧ Hid (∀ j, j < k → -1099511627776 ≤ l.getD j 0 ∧ l.getD j 0 ≤ 1099511627776)) (fun i => l.length - (intOf i).toNat)
    case atStart => exact ⟨0, rfl, Nat.zero_le _, fun j hj => by omega⟩
    case round =>
      obtain ⟨k, rfl, hk, hall⟩ := hrel
      by_cases hlt : k < l.length
      · rcases HAO.out with h0 | ⟨g, off, rfl, hc⟩
        · rw [h0] at hlt; simp at hlt
        have hck := hc k hlt
        clear hc
        obtain ⟨y, hy⟩ : ∃ y, y = l.getD k 0 := ⟨_, rfl⟩
        rw [← hy] at hck
        have HY := hide' hy
        clear hy
        by_cases hin : -1099511627776 ≤ y ∧ y ≤ 1099511627776
        · have HD := hide' (decide_eq_true hin)
          have HN := hide' hin
          clear hin
          go_wp2_with (first | (go_at_call 104; refine (HI.out _).mono ?_; rintro e w2 ⟨rfl, rfl⟩; rw [HD.out]))
          go_round
          case rel =>
            refine ⟨k + 1, by go_num, by omega, fun j hj => ?_⟩
            by_cases e : j = k
            · rw [e, ← HY.out]; exact HN.out
            · exact hall.out j (by omega)
          case measure => simp [intOf]; omega
        · have HD := hide' (decide_eq_false hin)
          have HN := hide' hin
          clear hin
          go_wp2_with (first | (go_at_call 104; refine (HI.out _).mono ?_; rintro e w2 ⟨rfl, rfl⟩; rw [HD.out]))
          go_ret
          refine ⟨ret_b (HR.out.trans (decide_eq_false fun h => HN.out ?_)).symm, rfl⟩
          rw [HY.out]
          exact h.2 k hlt
      · go_wp2
        go_ret
        exact ⟨ret_b (HR.out.trans (decide_eq_true ⟨h64, fun j hj => hall.out j (by omega)⟩)).symm, rfl⟩
  · have hq : 64 < (l.length : Int) := by omega
    have HD : Hid (decide (l.length ≤ 64 ∧ InBounds l) = false) := decide_eq_false (fun h => h64 h.1)
    go_enter Tryz.func105, Tryz.ntmps105
    go_wp2
    go_ret
    exact ⟨ret_b (HR.out.trans HD.out).symm, rfl⟩

/-- What the next key may be at the least. -/
def leastAt (l : List Int) (k : Nat) : Int := if k = 0 then 0 else l.getD (k - 2) 0 + 1

theorem pairAt_least {lo : Int} {l : List Int} {k : Nat} (hk : k % 2 = 0) (hall : ∀ j, j < k → j % 2 = 0 → PairAt lo l j) : PairAt lo l k ↔ (leastAt l k ≤ l.getD k 0 ∧ l.getD k 0 ≤ 255) ∧ lo ≤ l.getD (k + 1) 0 ∧ l.getD (k + 1) 0 ≤ 1099511627776 := by
  unfold PairAt leastAt
  by_cases h0 : k = 0
  · subst h0
    simp
    omega
  · rw [if_neg h0]
    have hp := (hall (k - 2) (by omega) (by omega)).1
    constructor
    · rintro ⟨h1, h2, h3, h4, h5⟩
      exact ⟨⟨by have := h3 (by omega); omega, h2⟩, h4, h5⟩
    · rintro ⟨⟨h1, h2⟩, h4, h5⟩
      exact ⟨by omega, h2, fun _ => by omega, h4, h5⟩

set_option maxRecDepth 100000 in
set_option maxHeartbeats 1000000 in
theorem mayPairs_any (v : Value) (l : List Int) (lo : Int) (a b : Nat) (w : World) (hr : RdI w v l) (ha : w.cell? ⟨a, 0, none⟩ = some (.int .i64 lo)) (hb : w.cell? ⟨b, 0, none⟩ = some (.int .i64 1099511627776)) :
    Calls Tryz.prog 106 #[v, .func (.func 104) #[] #[.pointer (some ⟨a, 0, none⟩), .pointer (some ⟨b, 0, none⟩)]] w fun e w' => e = .returned (.bool (decide (PairsOk lo l))) ∧ Below w.heap.size w w' := by
  have HI : Hid (∀ n W, Below w.heap.size w W → Calls Tryz.prog 104 #[.int .i64 n, .pointer (some ⟨a, 0, none⟩), .pointer (some ⟨b, 0, none⟩)] W fun e w' => e = .returned (.bool (decide (lo ≤ n ∧ n ≤ 1099511627776))) ∧ w' = W) := fun n W h =>
    is_any n _ _ a b W ((h.cell (World.block_lt_of_cell? w ⟨a, 0, none⟩ ha)).trans ha) ((h.cell (World.block_lt_of_cell? w ⟨b, 0, none⟩ hb)).trans hb)
  have HS := hide' (fun n l2 h2 a2 b2 W p1 p2 => is_any n l2 h2 a2 b2 W p1 p2)
  have HW := hide' (fun p q W => within_any p q W)
  obtain ⟨ao, cap, rfl, -, -, -, -, hao⟩ := hr
  have HAO := hide' hao
  clear hao ha hb
  obtain ⟨R, hR⟩ : ∃ R, R = decide (PairsOk lo l) := ⟨_, rfl⟩
  rw [← hR]
  have HR := hide' hR
  clear hR
  by_cases he : l.length % 2 = 0
  · by_cases h128 : l.length ≤ 128
    · have hq1 : (((l.length : Int).tmod 2) != 0) = false := by rw [bne_eq_false_iff_eq, Int.tmod_eq_emod_of_nonneg (by omega)]; omega
      have hq : ¬ (128 < (l.length : Int)) := by omega
      go_enter Tryz.func106, Tryz.ntmps106
      go_wp2
      go_loopw [5, 6] (fun y i wr => ∃ k : Nat, y = .int .i64 (leastAt l k) ∧ i = .int .i64 k ∧ k ≤ l.length ∧ k % 2 = 0 ∧ Hid (∀ j, j < k → j % 2 = 0 → PairAt lo l j) ∧ Hid (Below w.heap.size w wr)) (fun _ i _ => l.length - (intOf i).toNat)
      case atStart => exact ⟨0, rfl, rfl, Nat.zero_le _, rfl, fun j hj => by omega, Below.refl _ _⟩
      case round =>
        obtain ⟨k, rfl, rfl, hk, hk2, hall, hbel⟩ := hrel
        by_cases hlt : k < l.length
        · rcases HAO.out with h0 | ⟨g, off, rfl, hc⟩
          · rw [h0] at hlt; simp at hlt
          have hlt1 : k + 1 < l.length := by omega
          have HC0 : Hid (∀ W, Below w.heap.size w W → W.cell? ⟨g, off + k, none⟩ = some (.int .i64 (l.getD k 0))) := fun W h => (h.cell (World.block_lt_of_cell? w ⟨g, off + k, none⟩ (hc k hlt))).trans (hc k hlt)
          have HC1 : Hid (∀ W, Below w.heap.size w W → W.cell? ⟨g, off + (k + 1), none⟩ = some (.int .i64 (l.getD (k + 1) 0))) := fun W h => (h.cell (World.block_lt_of_cell? w ⟨g, off + (k + 1), none⟩ (hc (k + 1) hlt1))).trans (hc (k + 1) hlt1)
          clear hc
          have HP := hide' (pairAt_least (lo := lo) hk2 hall.out)
          have HLS : Hid (leastAt l (k + 2) = l.getD k 0 + 1) := by
            unfold leastAt
            rw [if_neg (by omega)]
            exact rfl
          generalize leastAt l k = ls at *
          obtain ⟨y, hy⟩ : ∃ y, y = l.getD k 0 := ⟨_, rfl⟩
          obtain ⟨z, hz⟩ : ∃ z, z = l.getD (k + 1) 0 := ⟨_, rfl⟩
          rw [← hy] at HC0 HP HLS
          rw [← hz] at HC1 HP
          have HEY := hide' hy
          clear hy hz
          by_cases hy : ls ≤ y ∧ y ≤ 255
          · have HD1 := hide' (decide_eq_true hy)
            have HY := hide' hy
            by_cases hz : lo ≤ z ∧ z ≤ 1099511627776
            · have HD2 := hide' (decide_eq_true hz)
              have HZ := hide' hz
              have hy255 := hy.2
              have hy0 : 0 ≤ y := by rw [HEY.out]; exact (HP.out.2 ⟨HY.out, HZ.out⟩).1
              clear hy hz
              go_wp2_with fail
              refine (HW.out _ _ _).mono ?_
              rintro e W1 ⟨a2, b2, rfl, hc1, hc2, hb1⟩
              have HB1 := hide' (hbel.out.trans (hb1.mono hbel.out.size))
              have hg0 := HC0.out _ HB1.out
              have hg1 := HC1.out _ HB1.out
              clear hb1
              go_wp2_with fail
              refine (HS.out _ _ _ _ _ _ hc1 hc2).mono ?_
              rintro e W2 ⟨rfl, rfl⟩
              rw [HD1.out]
              go_wp2_with fail
              refine (HI.out _ _ HB1.out).mono ?_
              rintro e W3 ⟨rfl, rfl⟩
              rw [HD2.out]
              go_wp2
              go_roundw
              case rel =>
                refine ⟨k + 2, by rw [HLS.out], by go_num, by omega, by omega, fun j hj hj2 => ?_, HB1⟩
                by_cases e : j = k
                · rw [e]; exact HP.out.2 ⟨HY.out, HZ.out⟩
                · exact hall.out j (by omega) hj2
              case measure => simp [intOf]; omega
            · have HD2 := hide' (decide_eq_false hz)
              have HZ := hide' hz
              clear hy hz
              go_wp2_with fail
              refine (HW.out _ _ _).mono ?_
              rintro e W1 ⟨a2, b2, rfl, hc1, hc2, hb1⟩
              have HB1 := hide' (hbel.out.trans (hb1.mono hbel.out.size))
              have hg0 := HC0.out _ HB1.out
              have hg1 := HC1.out _ HB1.out
              clear hb1
              go_wp2_with fail
              refine (HS.out _ _ _ _ _ _ hc1 hc2).mono ?_
              rintro e W2 ⟨rfl, rfl⟩
              rw [HD1.out]
              go_wp2_with fail
              refine (HI.out _ _ HB1.out).mono ?_
              rintro e W3 ⟨rfl, rfl⟩
              rw [HD2.out]
              go_wp2
              go_ret
              exact ⟨ret_b (HR.out.trans (decide_eq_false fun h => HZ.out (HP.out.1 (h.2.2 k hlt hk2)).2)).symm, HB1.out⟩
          · have HD1 := hide' (decide_eq_false hy)
            have HY := hide' hy
            clear hy
            go_wp2_with fail
            refine (HW.out _ _ _).mono ?_
            rintro e W1 ⟨a2, b2, rfl, hc1, hc2, hb1⟩
            have HB1 := hide' (hbel.out.trans (hb1.mono hbel.out.size))
            have hg0 := HC0.out _ HB1.out
            have hg1 := HC1.out _ HB1.out
            clear hb1
            go_wp2_with fail
            refine (HS.out _ _ _ _ _ _ hc1 hc2).mono ?_
            rintro e W2 ⟨rfl, rfl⟩
            rw [HD1.out]
            go_wp2
            go_ret
            exact ⟨ret_b (HR.out.trans (decide_eq_false fun h => HY.out (HP.out.1 (h.2.2 k hlt hk2)).1)).symm, HB1.out⟩
        · go_wp2
          go_ret
          exact ⟨ret_b (HR.out.trans (decide_eq_true ⟨he, h128, fun j hj hj2 => hall.out j (by omega) hj2⟩)).symm, hbel.out⟩
    · have hq1 : (((l.length : Int).tmod 2) != 0) = false := by rw [bne_eq_false_iff_eq, Int.tmod_eq_emod_of_nonneg (by omega)]; omega
      have hq : 128 < (l.length : Int) := by omega
      have HD : Hid (decide (PairsOk lo l) = false) := decide_eq_false (fun h => h128 h.2.1)
      go_enter Tryz.func106, Tryz.ntmps106
      go_wp2
      go_ret
      exact ⟨ret_b (HR.out.trans HD.out).symm, Below.refl _ _⟩
  · have hq1 : (((l.length : Int).tmod 2) != 0) = true := by rw [bne_iff_ne, Int.tmod_eq_emod_of_nonneg (by omega)]; omega
    have HD : Hid (decide (PairsOk lo l) = false) := decide_eq_false (fun h => he h.1)
    go_enter Tryz.func106, Tryz.ntmps106
    go_wp2
    go_ret
    exact ⟨ret_b (HR.out.trans HD.out).symm, Below.refl _ _⟩

end Go.Proofs.YtgpdbboieokldaaGreat

/- Contracts of objs: mayNumbers, May. -/
namespace Go.Proofs.YtgpdbboieokldaaGreat
open Go.RowKit

theorem nums_one {kind : Int} (hk : kind = 0 ∨ kind = 1) (l : List Int) : (0 ≤ kind ∧ kind < 6 ∧ NumsOk kind l) ↔ l.length = 1 ∧ -1099511627776 ≤ l.getD 0 0 ∧ l.getD 0 0 ≤ 1099511627776 := by
  rw [numsOk_list (by omega) (by omega)]
  constructor
  · rintro ⟨_, _, _, h1, h2⟩
    exact ⟨h1 (by omega), h2 0 (by have := h1 (by omega); omega)⟩
  · rintro ⟨h1, h2⟩
    refine ⟨by omega, by omega, by omega, fun _ => h1, fun j hj => ?_⟩
    have e : j = 0 := by omega
    rw [e]
    exact h2

theorem nums_line {kind : Int} (hk : kind = 2 ∨ kind = 3) (l : List Int) : (0 ≤ kind ∧ kind < 6 ∧ NumsOk kind l) ↔ l.length ≤ 64 ∧ InBounds l := by
  rw [numsOk_list (by omega) (by omega)]
  constructor
  · rintro ⟨_, _, h1, _, h2⟩
    exact ⟨h1, h2⟩
  · rintro ⟨h1, h2⟩
    exact ⟨by omega, by omega, h1, fun h => by omega, h2⟩

theorem nums_store (l : List Int) : (0 ≤ (4 : Int) ∧ (4 : Int) < 6 ∧ NumsOk 4 l) ↔ PairsOk (-1099511627776) l := by
  unfold NumsOk
  rw [if_pos rfl]
  exact ⟨fun h => h.2.2, fun h => ⟨by decide, by decide, h⟩⟩

theorem nums_ledger (l : List Int) : (0 ≤ (5 : Int) ∧ (5 : Int) < 6 ∧ NumsOk 5 l) ↔ PairsOk 0 l := by
  unfold NumsOk
  rw [if_neg (by decide), if_pos rfl]
  exact ⟨fun h => h.2.2, fun h => ⟨by decide, by decide, h⟩⟩

set_option maxRecDepth 100000 in
set_option maxHeartbeats 1000000 in
theorem mayNumbers_any (kind : Int) (v : Value) (l : List Int) (w : World) (hr : RdI w v l) :
    Calls Tryz.prog 93 #[.int .i64 kind, v] w fun e w' => e = .returned (.bool (decide (0 ≤ kind ∧ kind < 6 ∧ NumsOk kind l))) ∧ Below w.heap.size w w' := by
  have HW := hide' (fun p q W => within_any p q W)
  have HRD : Hid (∀ W, Below w.heap.size w W → RdI W v l) := fun W h => hr.below h (Nat.le_refl _)
  obtain ⟨R, hR⟩ : ∃ R, R = decide (0 ≤ kind ∧ kind < 6 ∧ NumsOk kind l) := ⟨_, rfl⟩
  rw [← hR]
  have HR := hide' hR
  clear hR
  by_cases h01 : kind = 0 ∨ kind = 1
  · have HN := hide' (nums_one h01 l)
    have hx : ((kind == 0) = true) ∨ ((kind == 0) = false ∧ (kind == 1) = true) := by
      rcases h01 with rfl | rfl
      · exact .inl rfl
      · exact .inr ⟨rfl, rfl⟩
    have HS := hide' (fun n l2 h2 a2 b2 W p1 p2 => is_any n l2 h2 a2 b2 W p1 p2)
    obtain ⟨ao, cap, rfl, -, -, -, -, hao⟩ := hr
    have HAO := hide' hao
    clear hao h01 HRD
    by_cases hl : l.length = 1
    · rcases HAO.out with h0 | ⟨g, off, rfl, hc⟩
      · rw [h0] at hl; simp at hl
      have HC0 : Hid (∀ W, Below w.heap.size w W → W.cell? ⟨g, off, none⟩ = some (.int .i64 (l.getD 0 0))) := fun W h => (h.cell (World.block_lt_of_cell? w ⟨g, off, none⟩ (hc 0 (by omega)))).trans (hc 0 (by omega))
      clear hc HAO
      have HL := hide' hl
      rw [hl]
      clear hl
      obtain ⟨y, hy⟩ : ∃ y, y = l.getD 0 0 := ⟨_, rfl⟩
      rw [← hy] at HC0 HN
      clear hy
      rcases hx with hx | ⟨hx, hx'⟩
      all_goals
        go_enter Tryz.func93, Tryz.ntmps93
        go_wp2_with fail
        refine (HW.out _ _ _).mono ?_
        rintro e W1 ⟨a2, b2, rfl, hc1, hc2, hb1⟩
        have HB1 := hide' hb1
        have hg0 := HC0.out _ hb1
        clear hb1
        go_wp2_with fail
        refine (HS.out _ _ _ _ _ _ hc1 hc2).mono ?_
        rintro e W2 ⟨rfl, rfl⟩
        go_wp2
        go_ret
        refine ⟨ret_b ?_, HB1.out⟩
        rw [HR.out, ← Bool.decide_and]
        exact decide_eq_decide.2 ⟨fun h => HN.out.2 ⟨HL.out, h⟩, fun h => (HN.out.1 h).2⟩
    · have hq : ((l.length : Int) == 1) = false := beq_eq_false_iff_ne.2 (by omega)
      have HD : Hid (decide (0 ≤ kind ∧ kind < 6 ∧ NumsOk kind l) = false) := decide_eq_false (fun h => hl (HN.out.1 h).1)
      clear hl
      rcases hx with hx | ⟨hx, hx'⟩
      all_goals
        go_enter Tryz.func93, Tryz.ntmps93
        go_wp2_with fail
        refine (HW.out _ _ _).mono ?_
        rintro e W1 ⟨a2, b2, rfl, hc1, hc2, hb1⟩
        have HB1 := hide' hb1
        clear hb1
        go_wp2
        go_ret
        exact ⟨ret_b (HR.out.trans HD.out).symm, HB1.out⟩
  · have e0 : (kind == 0) = false := beq_eq_false_iff_ne.2 (by omega)
    have e1 : (kind == 1) = false := beq_eq_false_iff_ne.2 (by omega)
    by_cases h23 : kind = 2 ∨ kind = 3
    · have HN := hide' (nums_line h23 l)
      have hx : ((kind == 2) = true) ∨ ((kind == 2) = false ∧ (kind == 3) = true) := by
        rcases h23 with rfl | rfl
        · exact .inl rfl
        · exact .inr ⟨rfl, rfl⟩
      have HS := hide' (fun a2 b2 W p1 p2 p3 => mayLine_any v l a2 b2 W p1 p2 p3)
      clear h01 h23 hr
      rcases hx with hx | ⟨hx, hx'⟩
      all_goals
        go_enter Tryz.func93, Tryz.ntmps93
        go_wp2_with fail
        refine (HW.out _ _ _).mono ?_
        rintro e W1 ⟨a2, b2, rfl, hc1, hc2, hb1⟩
        have HB1 := hide' hb1
        clear hb1
        go_wp2_with fail
        refine (HS.out _ _ _ (HRD.out _ HB1.out) hc1 hc2).mono ?_
        rintro e W2 ⟨rfl, rfl⟩
        go_wp2
        go_ret
        refine ⟨ret_b ?_, HB1.out⟩
        rw [HR.out, ← Bool.decide_and]
        exact decide_eq_decide.2 HN.out.symm
    · have e2 : (kind == 2) = false := beq_eq_false_iff_ne.2 (by omega)
      have e3 : (kind == 3) = false := beq_eq_false_iff_ne.2 (by omega)
      have HS := hide' (fun lo a2 b2 W p1 p2 p3 => mayPairs_any v l lo a2 b2 W p1 p2 p3)
      clear h01 h23 hr
      by_cases h4 : kind = 4
      · have e4 : (kind == 4) = true := beq_iff_eq.2 h4
        have HN : Hid (PairsOk (-1099511627776) l ↔ (0 ≤ kind ∧ kind < 6 ∧ NumsOk kind l)) := by rw [h4]; exact (nums_store l).symm
        clear h4
        go_enter Tryz.func93, Tryz.ntmps93
        go_wp2_with fail
        refine (HW.out _ _ _).mono ?_
        rintro e W1 ⟨a2, b2, rfl, hc1, hc2, hb1⟩
        have HB1 := hide' hb1
        clear hb1
        go_wp2_with fail
        refine (HS.out _ _ _ _ (HRD.out _ HB1.out) hc1 hc2).mono ?_
        rintro e W2 ⟨rfl, hb2⟩
        have HB2 := hide' (HB1.out.trans (hb2.mono HB1.out.size))
        clear hb2
        go_wp2
        go_ret
        refine ⟨ret_b ?_, HB2.out⟩
        rw [HR.out]
        exact decide_eq_decide.2 HN.out
      · have e4 : (kind == 4) = false := beq_eq_false_iff_ne.2 h4
        by_cases h5 : kind = 5
        · have e5 : (kind == 5) = true := beq_iff_eq.2 h5
          have HN : Hid (PairsOk 0 l ↔ (0 ≤ kind ∧ kind < 6 ∧ NumsOk kind l)) := by rw [h5]; exact (nums_ledger l).symm
          clear h4 h5
          go_enter Tryz.func93, Tryz.ntmps93
          go_wp2_with fail
          refine (HW.out _ _ _).mono ?_
          rintro e W1 ⟨a1, b1, rfl, _, _, hb1⟩
          have HB1 := hide' hb1
          clear hb1
          go_wp2_with fail
          refine (HW.out _ _ _).mono ?_
          rintro e W2 ⟨a2, b2, rfl, hc1, hc2, hb2⟩
          have HB2 := hide' (HB1.out.trans (hb2.mono HB1.out.size))
          clear hb2
          go_wp2_with fail
          refine (HS.out _ _ _ _ (HRD.out _ HB2.out) hc1 hc2).mono ?_
          rintro e W3 ⟨rfl, hb3⟩
          have HB3 := hide' (HB2.out.trans (hb3.mono HB2.out.size))
          clear hb3
          go_wp2
          go_ret
          refine ⟨ret_b ?_, HB3.out⟩
          rw [HR.out]
          exact decide_eq_decide.2 HN.out
        · have e5 : (kind == 5) = false := beq_eq_false_iff_ne.2 h5
          have HD : Hid (decide (0 ≤ kind ∧ kind < 6 ∧ NumsOk kind l) = false) := decide_eq_false (fun h => by
            have n0 : kind ≠ 0 := beq_eq_false_iff_ne.1 e0
            have n1 : kind ≠ 1 := beq_eq_false_iff_ne.1 e1
            have n2 : kind ≠ 2 := beq_eq_false_iff_ne.1 e2
            have n3 : kind ≠ 3 := beq_eq_false_iff_ne.1 e3
            omega)
          clear h4 h5
          go_enter Tryz.func93, Tryz.ntmps93
          go_wp2_with fail
          refine (HW.out _ _ _).mono ?_
          rintro e W1 ⟨a1, b1, rfl, _, _, hb1⟩
          have HB1 := hide' hb1
          clear hb1
          go_wp2
          go_ret
          exact ⟨ret_b (HR.out.trans HD.out).symm, HB1.out⟩

end Go.Proofs.YtgpdbboieokldaaGreat

/- Contracts of objs: May, Fits, Same, own, seal. -/
namespace Go.Proofs.YtgpdbboieokldaaGreat
open Go.RowKit

theorem may_split (kind : Int) (l : List Int) (shut : Bool) (g : Int) : MayS ⟨kind, l, shut, g⟩ ↔ (shut = false → g = 0) ∧ (0 ≤ g ∧ g ≤ 2) ∧ (0 ≤ kind ∧ kind < 6 ∧ NumsOk kind l) :=
  ⟨fun h => ⟨h.2.2.1, ⟨h.1, h.2.1⟩, h.2.2.2.1, h.2.2.2.2.1, h.2.2.2.2.2⟩, fun h => ⟨h.2.1.1, h.2.1.2, h.1, h.2.2.1, h.2.2.2.1, h.2.2.2.2⟩⟩

set_option maxRecDepth 100000 in
set_option maxHeartbeats 1000000 in
theorem may_any (v : Value) (s : St) (w : World) (hs : StV w v s) :
    Calls Tryz.prog 67 #[v] w fun e w' => e = .returned (.bool (decide (MayS s))) ∧ Below w.heap.size w w' := by
  obtain ⟨vl, rfl, hr, -, -⟩ := hs
  obtain ⟨kind, l, shut, g⟩ := s
  simp only at hr ⊢
  have HW := hide' (fun p q W => within_any p q W)
  have HS := hide' (fun n l2 h2 a2 b2 W p1 p2 => is_any n l2 h2 a2 b2 W p1 p2)
  have HMN : Hid (∀ W, Below w.heap.size w W → Calls Tryz.prog 93 #[.int .i64 kind, vl] W fun e w' => e = .returned (.bool (decide (0 ≤ kind ∧ kind < 6 ∧ NumsOk kind l))) ∧ Below W.heap.size W w') := fun W h => mayNumbers_any kind vl l W (hr.below h (Nat.le_refl _))
  have HM := hide' (may_split kind l shut g)
  obtain ⟨R, hR⟩ : ∃ R, R = decide (MayS ⟨kind, l, shut, g⟩) := ⟨_, rfl⟩
  rw [← hR]
  have HR := hide' hR
  have HBA : Hid (∀ x, Below w.heap.size w (w.alloc x)) := fun x => (Below.refl _ _).alloc (Nat.le_refl _) x
  clear hR hr
  by_cases hbad : shut = false ∧ g ≠ 0
  · obtain ⟨rfl, hg⟩ := hbad
    have hq : (g != 0) = true := bne_iff_ne.2 hg
    have HD : Hid (decide (MayS ⟨kind, l, false, g⟩) = false) := decide_eq_false (fun h => hg ((HM.out.1 h).1 rfl))
    clear hg
    go_enter Tryz.func67, Tryz.ntmps67
    go_wp2
    go_ret
    exact ⟨ret_b (HR.out.trans HD.out).symm, HBA.out _⟩
  · have hx : ((g != 0) = false) ∨ ((g != 0) = true ∧ shut = true) := by
      by_cases h0 : g = 0
      · exact .inl (bne_eq_false_iff_eq.2 h0)
      · cases shut
        · exact absurd ⟨rfl, h0⟩ hbad
        · exact .inr ⟨bne_iff_ne.2 h0, rfl⟩
    have HB : Hid (shut = false → g = 0) := fun h => by
      by_cases h0 : g = 0
      · exact h0
      · exact absurd ⟨h, h0⟩ hbad
    clear hbad
    by_cases hin : 0 ≤ g ∧ g ≤ 2
    · have HN := hide' (decide_eq_true hin)
      have HI := hide' hin
      clear hin
      have HF : Hid (decide (0 ≤ kind ∧ kind < 6 ∧ NumsOk kind l) = R) := by
        rw [HR.out]
        exact decide_eq_decide.2 ⟨fun h => HM.out.2 ⟨HB.out, HI.out, h⟩, fun h => (HM.out.1 h).2.2⟩
      rcases hx with hx | ⟨hx, rfl⟩
      all_goals
        go_enter Tryz.func67, Tryz.ntmps67
        go_wp2_with fail
        refine (HW.out _ _ _).mono ?_
        rintro e W1 ⟨a1, b1, rfl, hc1, hc2, hb1⟩
        have hbx := (hb1.block w.heap.size (by simp)).trans (heap_alloc_new w _)
        have q0 := cell_of_row W1 w.heap.size 0 _ _ _ hbx
        have q1 := cell_of_row W1 w.heap.size 1 _ _ _ hbx
        have q3 := cell_of_row W1 w.heap.size 3 _ _ _ hbx
        have HB1 := hide' ((HBA.out _).trans (hb1.mono (HBA.out _).size))
        clear hb1 hbx
        go_wp2_with fail
        refine (HS.out _ _ _ _ _ _ hc1 hc2).mono ?_
        rintro e W2 ⟨rfl, rfl⟩
        rw [HN.out]
        go_wp2_with fail
        refine (HMN.out _ HB1.out).mono ?_
        rintro e W3 ⟨rfl, hb3⟩
        rw [HF.out]
        have HB3 := hide' (HB1.out.trans (hb3.mono HB1.out.size))
        clear hb3
        go_wp2
        go_ret
        exact ⟨rfl, HB3.out⟩
    · have HN := hide' (decide_eq_false hin)
      have HF : Hid (R = false) := HR.out.trans (decide_eq_false fun h => hin (HM.out.1 h).2.1)
      clear hin
      rcases hx with hx | ⟨hx, rfl⟩
      all_goals
        go_enter Tryz.func67, Tryz.ntmps67
        go_wp2_with fail
        refine (HW.out _ _ _).mono ?_
        rintro e W1 ⟨a1, b1, rfl, hc1, hc2, hb1⟩
        have hbx := (hb1.block w.heap.size (by simp)).trans (heap_alloc_new w _)
        have q3 := cell_of_row W1 w.heap.size 3 _ _ _ hbx
        have HB1 := hide' ((HBA.out _).trans (hb1.mono (HBA.out _).size))
        clear hb1 hbx
        go_wp2_with fail
        refine (HS.out _ _ _ _ _ _ hc1 hc2).mono ?_
        rintro e W2 ⟨rfl, rfl⟩
        rw [HN.out]
        go_wp2
        go_ret
        exact ⟨ret_b HF.out.symm, HB1.out⟩

end Go.Proofs.YtgpdbboieokldaaGreat

/- Contracts of objs: Fits, Same, Start, own, seal. -/
namespace Go.Proofs.YtgpdbboieokldaaGreat
open Go.RowKit

set_option maxRecDepth 100000 in
set_option maxHeartbeats 1000000 in
theorem fits_any (o : Opn) (w : World) :
    Calls Tryz.prog 112 #[opV o] w fun e w' => e = .returned (.bool (decide (FitsO o))) ∧ Below w.heap.size w w' := by
  obtain ⟨code, a, b⟩ := o
  have HW := hide' (fun p q W => within_any p q W)
  have HS := hide' (fun n l2 h2 a2 b2 W p1 p2 => is_any n l2 h2 a2 b2 W p1 p2)
  have HM : Hid (FitsO ⟨code, a, b⟩ ↔ (0 ≤ code ∧ code ≤ 10) ∧ (-1099511627776 ≤ a ∧ a ≤ 1099511627776) ∧ (-1099511627776 ≤ b ∧ b ≤ 1099511627776)) :=
    ⟨fun h => ⟨⟨h.1, h.2.1⟩, ⟨h.2.2.1, h.2.2.2.1⟩, h.2.2.2.2⟩, fun h => ⟨h.1.1, h.1.2, h.2.1.1, h.2.1.2, h.2.2⟩⟩
  obtain ⟨R, hR⟩ : ∃ R, R = decide (FitsO ⟨code, a, b⟩) := ⟨_, rfl⟩
  rw [← hR]
  have HR := hide' hR
  have HBA : Hid (∀ x, Below w.heap.size w (w.alloc x)) := fun x => (Below.refl _ _).alloc (Nat.le_refl _) x
  clear hR
  have go : ∀ t1 t2 t3, Hid (decide (0 ≤ code ∧ code ≤ 10) = t1) → Hid (decide (-1099511627776 ≤ a ∧ a ≤ 1099511627776) = t2) → Hid (decide (-1099511627776 ≤ b ∧ b ≤ 1099511627776) = t3) → Hid ((t1 && t2 && t3) = R) →
      Calls Tryz.prog 112 #[.agg #[.int .i64 code, .int .i64 a, .int .i64 b]] w fun e w' => e = .returned (.bool R) ∧ Below w.heap.size w w' := by
    intro t1 t2 t3 H1 H2 H3 HF
    go_enter Tryz.func112, Tryz.ntmps112
    go_wp2_with fail
    refine (HW.out _ _ _).mono ?_
    rintro e W1 ⟨a1, b1, rfl, hc1, hc2, hb1⟩
    have HB1 := hide' ((HBA.out _).trans (hb1.mono (HBA.out _).size))
    have HX1 := hide' ((hb1.block w.heap.size (by simp)).trans (heap_alloc_new w _))
    have HC1 := hide' hc1
    have HC2 := hide' hc2
    clear hb1 hc1 hc2
    go_wp2_with fail
    refine (HW.out _ _ _).mono ?_
    rintro e W2 ⟨a2, b2, rfl, hd1, hd2, hb2⟩
    have hx := (hb2.block w.heap.size (Array.getElem?_eq_some_iff.1 HX1.out).1).trans HX1.out
    have q0 := cell_of_row W2 w.heap.size 0 _ _ _ hx
    have q1 := cell_of_row W2 w.heap.size 1 _ _ _ hx
    have q2 := cell_of_row W2 w.heap.size 2 _ _ _ hx
    have hc1 := (hb2.cell (World.block_lt_of_cell? W1 ⟨a1, 0, none⟩ HC1.out)).trans HC1.out
    have hc2 := (hb2.cell (World.block_lt_of_cell? W1 ⟨b1, 0, none⟩ HC2.out)).trans HC2.out
    have HB2 := hide' (HB1.out.trans (hb2.mono HB1.out.size))
    have HC1' := hide' hc1
    have HC2' := hide' hc2
    have HD1' := hide' hd1
    have HD2' := hide' hd2
    clear hb2 hx HX1 HC1 HC2 hc1 hc2 hd1 hd2
    go_wp2_with fail
    refine (HS.out _ _ _ _ _ _ HC1'.out HC2'.out).mono ?_
    rintro e W3 ⟨rfl, rfl⟩
    rw [H1.out]
    cases t1
    · go_wp2
      go_ret
      exact ⟨ret_b (by rw [← HF.out]; rfl), HB2.out⟩
    · go_wp2_with fail
      refine (HS.out _ _ _ _ _ _ HD1'.out HD2'.out).mono ?_
      rintro e W3 ⟨rfl, rfl⟩
      rw [H2.out]
      cases t2
      · go_wp2
        go_ret
        exact ⟨ret_b (by rw [← HF.out]; rfl), HB2.out⟩
      · go_wp2_with fail
        refine (HS.out _ _ _ _ _ _ HD1'.out HD2'.out).mono ?_
        rintro e W3 ⟨rfl, rfl⟩
        rw [H3.out]
        go_wp2
        go_ret
        exact ⟨ret_b (by rw [← HF.out]; rfl), HB2.out⟩
  refine go _ _ _ rfl rfl rfl (hide' ?_)
  rw [HR.out, ← Bool.decide_and, ← Bool.decide_and]
  exact decide_eq_decide.2 ⟨fun h => HM.out.2 ⟨h.1.1, h.1.2, h.2⟩, fun h => ⟨⟨(HM.out.1 h).1, (HM.out.1 h).2.1⟩, (HM.out.1 h).2.2⟩⟩

end Go.Proofs.YtgpdbboieokldaaGreat

/- Contracts of the document's answer for layer num, its readers: read, Get, GetSigned, Fixed, Zig, Zag. -/
namespace Go.Proofs.YtgpdbboieokldaaGreat
open Go.RowKit

theorem zigzag_neg' (n : Int) (h : ¬ 0 ≤ n) : ((Lib.zigzag n : Nat) : Int) = -(n + 1) * 2 + 1 := by
  unfold Lib.zigzag
  rw [if_neg h]
  omega

set_option maxRecDepth 100000 in
set_option maxHeartbeats 400000 in
theorem refZig_any (n : Int) (w : World) (h0 : -9223372036854775808 ≤ n) (h1 : n ≤ 9223372036854775807) :
    Calls Tryz.prog 52 #[.int .i64 n] w fun e w' => e = .returned (.int .u64 (Lib.zigzag n : Nat)) ∧ w' = w := by
  by_cases h : 0 ≤ n
  · have HZ := hide (Lib.zigzag_nonneg h)
    go_enter Tryz.func52, Tryz.ntmps52
    go_wp2
    go_ret
    exact ⟨ret_int (by rw [HZ.out]), rfl⟩
  · have HZ := hide (zigzag_neg' n h)
    go_enter Tryz.func52, Tryz.ntmps52
    go_wp2
    go_ret
    exact ⟨ret_int (by rw [HZ.out]), rfl⟩

set_option maxRecDepth 100000 in
set_option maxHeartbeats 400000 in
theorem refZag_any (u : Nat) (w : World) (h : u < 18446744073709551616) :
    Calls Tryz.prog 103 #[.int .u64 (u : Int)] w fun e w' => e = .returned (.int .i64 (zag u)) ∧ w' = w := by
  have HZ : Hid (zag u = if u % 2 = 0 then ((u / 2 : Nat) : Int) else -((u / 2 : Nat) : Int) - 1) := rfl
  obtain ⟨U, hU⟩ : ∃ U : Int, U = (u : Int) := ⟨_, rfl⟩
  have hU0 : 0 ≤ U := by omega
  have hU1 : U < 18446744073709551616 := by omega
  rw [← hU]
  have HU := hide hU
  clear hU h
  by_cases hp : U % 2 = 0
  · have hq : (U % 2 == 0) = true := beq_iff_eq.2 hp
    have HQ := hide hp
    clear hp
    go_enter Tryz.func103, Tryz.ntmps103
    go_wp2
    go_ret
    have e := HU.out
    have e2 := HQ.out
    refine ⟨ret_int ?_, rfl⟩
    rw [HZ.out, if_pos (by omega)]
    omega
  · have hq : (U % 2 == 0) = false := beq_eq_false_iff_ne.2 hp
    have HQ := hide hp
    clear hp
    go_enter Tryz.func103, Tryz.ntmps103
    go_wp2
    go_ret
    have e := HU.out
    have e2 := HQ.out
    refine ⟨ret_int ?_, rfl⟩
    rw [HZ.out, if_neg (by omega)]
    omega

/-- 128^k modulo 2^64, as read reckons it. -/
def one128 (k : Nat) : Int := ((128 ^ k % 18446744073709551616 : Nat) : Int)

theorem one_step (k : Nat) : (one128 k * 128) % 18446744073709551616 = one128 (k + 1) := by
  unfold one128
  rw [Nat.pow_succ]
  omega

theorem read_step (l : List UInt8) (k : Nat) (hk : k < l.length) (h10 : k < 10) (h9 : k = 9 → ((l.getD k 0).toNat : Int) % 128 ≤ 1) :
    (((val (l.take k) : Nat) : Int) + (((l.getD k 0).toNat : Int) % 128 * one128 k) % 18446744073709551616) % 18446744073709551616 = ((val (l.take (k + 1)) : Nat) : Int) := by
  have hv := val_take_lt l k (by omega)
  have ho : one128 k = ((128 ^ k : Nat) : Int) := by
    unfold one128
    have : 128 ^ k ≤ 128 ^ 9 := Nat.pow_le_pow_right (by decide) (by omega)
    have e9 : 128 ^ 9 = 9223372036854775808 := by decide
    rw [Nat.mod_eq_of_lt (by omega)]
  rw [ho, val_take l k hk]
  have e : (((l.getD k 0).toNat : Int) % 128 * ((128 ^ k : Nat) : Int)) = (((l.getD k 0).toNat % 128 * 128 ^ k : Nat) : Int) := by
    rw [Int.natCast_mul]
    simp
  rw [e]
  have hb : (l.getD k 0).toNat % 128 * 128 ^ k < 9223372036854775809 := by
    by_cases hk9 : k = 9
    · have := h9 hk9
      subst hk9
      have e9 : 128 ^ 9 = 9223372036854775808 := by decide
      rw [e9]
      omega
    · have hp : 128 ^ k ≤ 128 ^ 8 := Nat.pow_le_pow_right (by decide) (by omega)
      have hm : (l.getD k 0).toNat % 128 ≤ 127 := by omega
      have := Nat.mul_le_mul hm hp
      have e8 : 127 * 128 ^ 8 < 9223372036854775809 := by decide
      omega
  have hv2 : val (l.take k) < 9223372036854775808 := by
    have : 128 ^ k ≤ 128 ^ 9 := Nat.pow_le_pow_right (by decide) (by omega)
    have e9 : 128 ^ 9 = 9223372036854775808 := by decide
    omega
  omega

set_option maxRecDepth 100000 in
set_option maxHeartbeats 1000000 in
theorem read_any (v : Value) (l : List UInt8) (w : World) (hr : Rd w v l) :
    Calls Tryz.prog 90 #[v] w fun e w' => e = .returned (.tuple #[.int .u64 ((dec64 l).1 : Nat), .int .i64 ((dec64 l).2 : Nat)]) ∧ w' = w := by
  obtain ⟨ao, cap, rfl, hlc, hcm, hn0, hao⟩ := hr
  clear hn0
  have hml : (l.length : Int) ≤ 9223372036854775807 := by unfold maxLen at hcm; omega
  go_enter Tryz.func90, Tryz.ntmps90
  go_wp2
  go_loop [4, 5, 6] (fun u one i => ∃ k : Nat, i = .int .i64 k ∧ k ≤ 10 ∧ k ≤ l.length ∧ Hid (∀ j, j < k → 128 ≤ (l.getD j 0).toNat) ∧ one = .int .u64 (one128 k) ∧ (k ≤ 9 → u = .int .u64 (val (l.take k) : Nat)) ∧ ∃ U : Int, u = .int .u64 U) (fun _ _ i => 10 - (intOf i).toNat)
  case atStart => exact ⟨0, rfl, by omega, by omega, fun j hj => by omega, rfl, fun _ => rfl, _, rfl⟩
  case round =>
    obtain ⟨k, rfl, hk10, hkl, hall, rfl, hu, U, rfl⟩ := hrel
    by_cases hlt : k < 10 ∧ k < l.length
    · obtain ⟨hlt, hlt'⟩ := hlt
      rcases hao with hao | ⟨b, off, rfl, hc⟩
      · subst hao; simp at hlt'
      · have hu' := hu (by omega)
        simp only [Value.int.injEq, true_and] at hu'
        subst hu'
        clear hu
        have hck := hc k hlt'
        clear hc
        obtain ⟨y, hy⟩ : ∃ y : Int, y = ((l.getD k 0).toNat : Int) := ⟨_, rfl⟩
        rw [← hy] at hck
        have hy0 : 0 ≤ y := by omega
        have hy1 : y < 256 := by have := (l.getD k 0).toNat_lt; omega
        have HY := hide hy
        clear hy
        have HR := hide (read_step l k hlt' hlt)
        have HO : Hid (one128 (k + 1) = (one128 k * 128) % 18446744073709551616) := (one_step k).symm
        have ho0 : 0 ≤ one128 k := by unfold one128; omega
        have ho1 : one128 k < 18446744073709551616 := by unfold one128; omega
        rw [← HY.out] at HR
        generalize one128 k = o at *
        obtain ⟨z, hz⟩ : ∃ z : Int, z = ((val (l.take k) : Nat) : Int) := ⟨_, rfl⟩
        rw [← hz] at HR ⊢
        clear hz
        by_cases hA : k = 9 ∧ 1 < y % 128
        · have H : Hid (dec64 l = (0, 0)) := by
            have e := HY.out
            obtain ⟨hk9, hd⟩ := hA
            subst hk9
            by_cases hy : y < 128
            · exact dec64_ten (.inr ⟨by omega, by omega, by omega, fun j hj => hall.out j (by omega), by show (l.getD 9 0).toNat < 128; omega⟩) (by omega)
            · exact dec64_none (.inl ⟨rfl, fun j h1 h2 => by
                by_cases ej : j = 9
                · subst ej; omega
                · exact hall.out j (by omega)⟩)
          have e9 : ((k : Int) == 9) = true := beq_iff_eq.2 (by omega)
          have hd := hA.2
          clear hA
          go_wp2
          go_ret2
          exact ⟨by rw [H.out]; rfl, rfl⟩
        · have HR2 := hide (HR.out (fun h => by omega))
          have HA := hide hA
          have h9 : (k = 9 ∧ ¬ 1 < y % 128) ∨ k ≠ 9 := by omega
          clear HR hA
          by_cases hy : y < 128
          · by_cases h0 : 0 < k ∧ y = 0
            · have H : Hid (dec64 l = (0, 0)) := by
                have e := HY.out
                exact dec64_last0 (.inr ⟨by omega, by omega, by omega, fun j hj => hall.out j (by omega), by show (l.getD k 0).toNat < 128; omega⟩) h0.1 (by omega)
              obtain ⟨hk0, hy00⟩ := h0
              have hk0' : (0 : Int) < (k : Int) := by omega
              have hd0 : (y % 128 == 0) = true := beq_iff_eq.2 (by omega)
              rcases h9 with ⟨e, hd⟩ | e
              · have e9 : ((k : Int) == 9) = true := beq_iff_eq.2 (by omega)
                clear e hy00
                go_wp2
                go_ret2
                exact ⟨by rw [H.out]; rfl, rfl⟩
              · have e9 : ((k : Int) == 9) = false := beq_eq_false_iff_ne.2 (by omega)
                clear e hy00
                go_wp2
                go_ret2
                exact ⟨by rw [H.out]; rfl, rfl⟩
            · have H : Hid (dec64 l = (val (l.take (k + 1)), k + 1)) := by
                have e := HY.out
                have h9' := HA.out
                exact (dec64_good (.inr ⟨by omega, by omega, by omega, fun j hj => hall.out j (by omega), by show (l.getD k 0).toNat < 128; omega⟩) (fun h => by omega) (fun h => by omega)).1
              have hw : (k = 9 ∧ ¬ 1 < y % 128 ∧ ¬ y % 128 = 0) ∨ (k ≠ 9 ∧ k = 0) ∨ (k ≠ 9 ∧ k ≠ 0 ∧ ¬ y % 128 = 0) := by omega
              clear h0 h9
              rcases hw with hw | hw | hw
              · have e9 : ((k : Int) == 9) = true := beq_iff_eq.2 (by omega)
                have hd := hw.2.1
                have hk0' : (0 : Int) < (k : Int) := by omega
                have hd0 : (y % 128 == 0) = false := beq_eq_false_iff_ne.2 (by omega)
                clear hw
                go_wp2
                go_ret2
                exact ⟨by rw [H.out]; simp only; rw [← HR2.out]; rfl, rfl⟩
              · have e9 : ((k : Int) == 9) = false := beq_eq_false_iff_ne.2 (by omega)
                have hk0' : ¬ (0 : Int) < (k : Int) := by omega
                clear hw
                go_wp2
                go_ret2
                exact ⟨by rw [H.out]; simp only; rw [← HR2.out]; rfl, rfl⟩
              · have e9 : ((k : Int) == 9) = false := beq_eq_false_iff_ne.2 (by omega)
                have hk0' : (0 : Int) < (k : Int) := by omega
                have hd0 : (y % 128 == 0) = false := beq_eq_false_iff_ne.2 (by omega)
                clear hw
                go_wp2
                go_ret2
                exact ⟨by rw [H.out]; simp only; rw [← HR2.out]; rfl, rfl⟩
          · have HJ : Hid (∀ j, j < k + 1 → 128 ≤ (l.getD j 0).toNat) := by
              have e := HY.out
              intro j hj
              by_cases ej : j = k
              · subst ej; omega
              · exact hall.out j (by omega)
            rcases h9 with ⟨e, hd⟩ | e
            · have e9 : ((k : Int) == 9) = true := beq_iff_eq.2 (by omega)
              clear e
              go_wp2
              go_round
              case rel => exact ⟨k + 1, by go_num, by omega, by omega, HJ, by rw [HO.out]; rfl, fun _ => by rw [← HR2.out]; rfl, _, rfl⟩
              case measure => simp [intOf]; omega
            · have e9 : ((k : Int) == 9) = false := beq_eq_false_iff_ne.2 (by omega)
              clear e
              go_wp2
              go_round
              case rel => exact ⟨k + 1, by go_num, by omega, by omega, HJ, by rw [HO.out]; rfl, fun _ => by rw [← HR2.out]; rfl, _, rfl⟩
              case measure => simp [intOf]; omega
    · have H : Hid (dec64 l = (0, 0)) := dec64_none (.inl ⟨rfl, fun j h1 h2 => hall.out j (by omega)⟩)
      by_cases hk : k < l.length
      all_goals
        go_wp2
        go_ret2
        exact ⟨by rw [H.out]; rfl, rfl⟩

set_option maxRecDepth 100000 in
set_option maxHeartbeats 400000 in
theorem refGet_any (v : Value) (l : List UInt8) (w : World) (hr : Rd w v l) :
    Calls Tryz.prog 63 #[v] w fun e w' => e = .returned (.tuple #[.int .i64 ((dec62 l).1 : Nat), .int .i64 ((dec62 l).2 : Nat)]) ∧ w' = w := by
  have HC := hide (read_any v l w hr)
  have H : Hid (dec62 l = if (dec64 l).1 < 4611686018427387904 then dec64 l else (0, 0)) := rfl
  have HD := hide (dec64_cases l)
  generalize dec64 l = d at *
  obtain ⟨u, k⟩ := d
  obtain ⟨U, hU⟩ : ∃ U : Int, U = (u : Int) := ⟨_, rfl⟩
  simp only at HC H HD
  rw [← hU] at HC
  have hU0 : 0 ≤ U := by omega
  have HU := hide hU
  clear hU
  by_cases hk : k = 0
  · have H2 : Hid (dec62 l = (0, 0)) := by
      have e := H.out
      rcases HD.out with h | h
      · have hu0 : u = 0 := congrArg Prod.fst h
        subst hu0 hk
        exact e
      · omega
    have hk0 : ((k : Int) == 0) = true := beq_iff_eq.2 (by omega)
    clear hk
    go_enter Tryz.func63, Tryz.ntmps63
    go_wp2_with fail
    refine HC.out.mono ?_
    rintro e w' ⟨rfl, rfl⟩
    go_wp2
    go_ret2
    rw [H2.out]
    exact ⟨rfl, rfl⟩
  · have hk0 : ((k : Int) == 0) = false := beq_eq_false_iff_ne.2 (by omega)
    clear hk
    by_cases hu : U < 4611686018427387904
    · go_enter Tryz.func63, Tryz.ntmps63
      go_wp2_with fail
      refine HC.out.mono ?_
      rintro e w' ⟨rfl, rfl⟩
      go_wp2
      go_ret2
      have e := H.out
      have eu := HU.out
      rw [if_pos (by omega)] at e
      rw [e]
      exact ⟨by rw [eu]; rfl, rfl⟩
    · go_enter Tryz.func63, Tryz.ntmps63
      go_wp2_with fail
      refine HC.out.mono ?_
      rintro e w' ⟨rfl, rfl⟩
      go_wp2
      go_ret2
      have e := H.out
      have eu := HU.out
      rw [if_neg (by omega)] at e
      rw [e]
      exact ⟨rfl, rfl⟩

set_option maxRecDepth 100000 in
set_option maxHeartbeats 400000 in
theorem refGetSigned_any (v : Value) (l : List UInt8) (w : World) (hr : Rd w v l) :
    Calls Tryz.prog 91 #[v] w fun e w' => e = .returned (.tuple #[.int .i64 (zag (dec64 l).1), .int .i64 ((dec64 l).2 : Nat)]) ∧ w' = w := by
  have HC := hide (read_any v l w hr)
  have hlt := dec64_lt l
  have HD := hide (dec64_cases l)
  generalize dec64 l = d at *
  obtain ⟨u, k⟩ := d
  simp only at HC hlt HD
  by_cases hk : k = 0
  · have hu : u = 0 := by
      rcases HD.out with h | h
      · exact congrArg Prod.fst h
      · omega
    subst hk hu
    clear HD
    go_enter Tryz.func91, Tryz.ntmps91
    go_wp2_with fail
    refine HC.out.mono ?_
    rintro e w' ⟨rfl, rfl⟩
    go_wp2
    go_ret2
    exact ⟨rfl, rfl⟩
  · have hk0 : ((k : Int) == 0) = false := beq_eq_false_iff_ne.2 (by omega)
    clear hk
    go_enter Tryz.func91, Tryz.ntmps91
    go_wp2_with fail
    refine HC.out.mono ?_
    rintro e w' ⟨rfl, rfl⟩
    go_wp2_with fail
    refine (refZag_any u _ hlt).mono ?_
    rintro e w1 ⟨rfl, rfl⟩
    go_wp2
    go_ret2
    exact ⟨rfl, rfl⟩

/-- The number of the bytes from the k-th on, of the first eight. -/
def leTail (l : List UInt8) (k : Nat) : Nat := Lib.leNat ((l.take 8).drop k)

theorem leTail_out (l : List UInt8) (k : Nat) (h : l.length ≤ k) : leTail l k = leTail l (k + 1) := by
  unfold leTail
  rw [List.drop_of_length_le (by simp; omega), List.drop_of_length_le (by simp; omega)]

theorem leTail_in (l : List UInt8) (k : Nat) (h : k < l.length) (h8 : k < 8) : leTail l k = (l.getD k 0).toNat + 256 * leTail l (k + 1) := by
  unfold leTail
  have hk : k < (l.take 8).length := by simp; omega
  rw [List.drop_eq_getElem_cons hk, Lib.leNat]
  simp [List.getD, h]

theorem leTail_lt (l : List UInt8) (k : Nat) (h8 : k ≤ 8) : leTail l k < 256 ^ (8 - k) := by
  unfold leTail
  have h := leNat_lt ((l.take 8).drop k)
  have h2 : ((l.take 8).drop k).length ≤ 8 - k := by simp; omega
  have h3 : 256 ^ ((l.take 8).drop k).length ≤ 256 ^ (8 - k) := Nat.pow_le_pow_right (by decide) h2
  omega

theorem fixed_step (l : List UInt8) (k : Nat) (h : k < l.length) (h8 : k < 8) :
    ((((leTail l (k + 1) : Nat) : Int) * 256) % 18446744073709551616 + ((l.getD k 0).toNat : Int)) % 18446744073709551616 = ((leTail l k : Nat) : Int) := by
  have h1 := leTail_in l k h h8
  have h2 := leTail_lt l (k + 1) (by omega)
  have h3 : 256 ^ (8 - (k + 1)) ≤ 256 ^ 7 := Nat.pow_le_pow_right (by decide) (by omega)
  have e7 : 256 ^ 7 = 72057594037927936 := by decide
  have hb := (l.getD k 0).toNat_lt
  omega

set_option maxRecDepth 100000 in
set_option maxHeartbeats 400000 in
theorem refFixed_any (v : Value) (l : List UInt8) (w : World) (hr : Rd w v l) :
    Calls Tryz.prog 64 #[v] w fun e w' => e = .returned (.int .u64 (Lib.leNat (l.take 8) : Nat)) ∧ w' = w := by
  obtain ⟨ao, cap, rfl, hlc, hcm, hn0, hao⟩ := hr
  clear hn0
  have hml : (l.length : Int) ≤ 9223372036854775807 := by unfold maxLen at hcm; omega
  have HE : Hid (leTail l 0 = Lib.leNat (l.take 8)) := rfl
  have H8 : Hid (leTail l 8 = 0) := by
    unfold leTail
    rw [List.drop_of_length_le (by simp; omega)]
    rfl
  go_enter Tryz.func64, Tryz.ntmps64
  go_wp2
  go_loop [3, 4] (fun n i => ∃ k : Nat, i = .int .i64 ((k : Int) - 1) ∧ k ≤ 8 ∧ n = .int .u64 (leTail l k : Nat)) (fun _ i => (intOf i + 1).toNat)
  case atStart => exact ⟨8, rfl, by omega, by rw [H8.out]; rfl⟩
  case round =>
    obtain ⟨k, rfl, hk8, rfl⟩ := hrel
    by_cases hk : k = 0
    · subst hk
      go_wp2
      go_ret
      exact ⟨ret_int (by rw [HE.out]), rfl⟩
    · obtain ⟨j, rfl⟩ : ∃ j, k = j + 1 := ⟨k - 1, by omega⟩
      clear hk
      by_cases hj : j < l.length
      · rcases hao with hao | ⟨b, off, rfl, hc⟩
        · subst hao; simp at hj
        · have hck := hc j hj
          have HS := hide (fixed_step l j hj (by omega))
          have hy : (l.getD j 0).toNat < 256 := UInt8.toNat_lt _
          clear hc
          generalize (l.getD j 0).toNat = y at *
          generalize leTail l (j + 1) = z at *
          go_wp2
          go_round
          case rel =>
            refine ⟨j, by go_num, by omega, ?_⟩
            rw [IntKind.wrap_u64, IntKind.wrap_u64, HS.out]
          case measure => simp [intOf]
      · have HS := hide (leTail_out l j (by omega))
        go_wp2
        go_round
        case rel => exact ⟨j, by go_num, by omega, by rw [HS.out]⟩
        case measure => simp [intOf]

end Go.Proofs.YtgpdbboieokldaaGreat

