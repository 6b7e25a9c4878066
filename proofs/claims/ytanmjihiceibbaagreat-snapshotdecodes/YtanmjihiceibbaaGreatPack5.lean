import Derived.Test.YtanmjihiceibbaaGreatPack1
import Derived.Test.YtanmjihiceibbaaGreatPack3
import Derived.Test.YtanmjihiceibbaaGreatPack2
import Derived.Test.YtanmjihiceibbaaGreatPack4
/- Objects: where a key's pair stands; what the landed step makes of a state. -/
namespace Go.Proofs.YtanmjihiceibbaaGreat

/-- Where a key's pair stands, or would stand. -/
def placeP (key : Int) : List Int → Nat
  | a :: _ :: r => if key ≤ a then 0 else placeP key r + 2
  | _ => 0

/-- A key has a pair. -/
def hitP (key : Int) (l : List Int) : Bool := (getP key l).isSome

theorem placeP_le (key : Int) : ∀ (l : List Int), l.length % 2 = 0 → placeP key l ≤ l.length ∧ placeP key l % 2 = 0
  | [], _ => ⟨Nat.le_refl _, rfl⟩
  | [_], h => by simp at h
  | a :: b :: r, h => by
    have ih := placeP_le key r (by simp at h; omega)
    unfold placeP
    split
    · simp
    · simp
      omega

/-- Ahead of the place all keys are less. -/
theorem placeP_drop (key : Int) : ∀ (l : List Int) (k : Nat), l.length % 2 = 0 → k % 2 = 0 → k ≤ l.length → (∀ j, j < k → j % 2 = 0 → l.getD j 0 < key) → placeP key l = k + placeP key (l.drop k)
  | [], k, _, _, hk, _ => by
    have : k = 0 := by simpa using hk
    subst this
    rfl
  | [_], _, h, _, _, _ => by simp at h
  | a :: b :: r, k, h, hk2, hk, hall => by
    by_cases h0 : k = 0
    · subst h0
      simp
    · obtain ⟨j, rfl⟩ : ∃ j, k = j + 2 := ⟨k - 2, by omega⟩
      have h1 := hall 0 (by omega) rfl
      have h1' : a < key := h1
      have ih := placeP_drop key r j (by simp at h; omega) (by omega) (by simp at hk; omega) (fun i hi hi2 => by
        have := hall (i + 2) (by omega) (by omega)
        exact this)
      conv => lhs; unfold placeP
      rw [if_neg (by omega), ih]
      show j + placeP key (r.drop j) + 2 = j + 2 + placeP key (r.drop j)
      omega

theorem placeP_stop (key : Int) (l : List Int) (k : Nat) (hk : k + 1 < l.length) (h : key ≤ l.getD k 0) : placeP key (l.drop k) = 0 := by
  rw [drop_pair l k hk, placeP, if_pos h]

theorem placeP_hit (key least : Int) : ∀ (l : List Int) (lo : Int), Pairs least lo l → hitP key l = decide (placeP key l < l.length ∧ l.getD (placeP key l) 0 = key) ∧ (hitP key l = true → getP key l = some (l.getD (placeP key l + 1) 0) ∧ placeP key l + 1 < l.length)
  | [], lo, _ => by simp [hitP, getP, placeP]
  | [_], lo, h => by simp [Pairs] at h
  | a :: b :: r, lo, h => by
    have hg := getP_above (least := least) (key := key) (l := r) (lo := a)
    unfold Pairs at h
    have ih := placeP_hit key least r a h.2.2.2.2
    by_cases h1 : key ≤ a
    · have e : placeP key (a :: b :: r) = 0 := by unfold placeP; rw [if_pos h1]
      rw [e]
      by_cases h2 : a = key
      · have e2 : getP key (a :: b :: r) = some b := by rw [getP_cons, if_pos h2]
        unfold hitP
        rw [e2]
        simp [h2]
      · have e2 : getP key (a :: b :: r) = none := by rw [getP_cons, if_neg h2, hg h.2.2.2.2 h1]
        unfold hitP
        rw [e2]
        simp [h2]
    · have e : placeP key (a :: b :: r) = placeP key r + 2 := by rw [placeP, if_neg h1]
      have e2 : getP key (a :: b :: r) = getP key r := by rw [getP_cons, if_neg (by omega)]
      have e3 : hitP key (a :: b :: r) = hitP key r := by unfold hitP; rw [e2]
      rw [e, e2, e3]
      refine ⟨?_, fun hh => ?_⟩
      · rw [ih.1]
        have e4 : (a :: b :: r).getD (placeP key r + 2) 0 = r.getD (placeP key r) 0 := rfl
        rw [e4]
        apply decide_eq_decide.2
        simp
      · have := ih.2 hh
        refine ⟨this.1, ?_⟩
        simp
        omega

theorem withF_insert (key n least : Int) : ∀ (l : List Int) (lo : Int), Pairs least lo l → hitP key l = false → withF key n false l = l.take (placeP key l) ++ ([key, n] ++ l.drop (placeP key l))
  | [], lo, _, _ => by simp [withF, placeP]
  | [_], lo, h, _ => by simp [Pairs] at h
  | a :: b :: r, lo, h, hm => by
    rw [withF_cons key n least a b r lo h]
    unfold Pairs at h
    have ih := withF_insert key n least r a h.2.2.2.2
    unfold hitP at hm
    rw [getP_cons] at hm
    by_cases h2 : a = key
    · rw [if_pos h2] at hm
      simp at hm
    · rw [if_neg h2] at hm
      by_cases h1 : key < a
      · rw [if_pos h1, placeP, if_pos (by omega)]
        rfl
      · rw [if_neg h1, if_neg (by omega), ih hm, placeP, if_neg (by omega)]
        rfl

theorem withF_set (key n least : Int) : ∀ (l : List Int) (lo : Int), Pairs least lo l → hitP key l = true → withF key n false l = l.set (placeP key l + 1) n
  | [], lo, _, h => by simp [hitP, getP] at h
  | [_], lo, h, _ => by simp [Pairs] at h
  | a :: b :: r, lo, h, hm => by
    rw [withF_cons key n least a b r lo h]
    have hg := getP_above (least := least) (key := key) (l := r) (lo := a)
    unfold Pairs at h
    have ih := withF_set key n least r a h.2.2.2.2
    unfold hitP at hm
    rw [getP_cons] at hm
    by_cases h2 : a = key
    · rw [if_neg (by omega), if_pos h2.symm, placeP, if_pos (by omega), h2]
      rfl
    · rw [if_neg h2] at hm
      by_cases h1 : key < a
      · rw [hg h.2.2.2.2 (by omega)] at hm
        simp at hm
      · rw [if_neg h1, if_neg (by omega), ih hm, placeP, if_neg (by omega)]
        rfl

theorem withoutF_above {least key : Int} : ∀ {l : List Int} {lo : Int}, Pairs least lo l → key ≤ lo → withoutF key l = l
  | [], _, _, _ => rfl
  | [_], _, h, _ => by simp [Pairs] at h
  | a :: b :: r, lo, h, hk => by
    unfold Pairs at h
    rw [withoutF_cons, if_pos (by omega), withoutF_above h.2.2.2.2 (by omega)]

theorem withoutF_not (key least : Int) : ∀ (l : List Int) (lo : Int), Pairs least lo l → hitP key l = false → withoutF key l = l
  | [], lo, _, _ => rfl
  | [_], lo, h, _ => by simp [Pairs] at h
  | a :: b :: r, lo, h, hm => by
    unfold Pairs at h
    have ih := withoutF_not key least r a h.2.2.2.2
    unfold hitP at hm
    rw [getP_cons] at hm
    by_cases h2 : a = key
    · rw [if_pos h2] at hm
      simp at hm
    · rw [if_neg h2] at hm
      rw [withoutF_cons, if_pos h2, ih hm]

theorem withoutF_cut (key least : Int) : ∀ (l : List Int) (lo : Int), Pairs least lo l → hitP key l = true → withoutF key l = l.take (placeP key l) ++ l.drop (placeP key l + 2)
  | [], lo, _, h => by simp [hitP, getP] at h
  | [_], lo, h, _ => by simp [Pairs] at h
  | a :: b :: r, lo, h, hm => by
    have hg := getP_above (least := least) (key := key) (l := r) (lo := a)
    unfold Pairs at h
    have ih := withoutF_cut key least r a h.2.2.2.2
    unfold hitP at hm
    rw [getP_cons] at hm
    rw [withoutF_cons]
    by_cases h2 : a = key
    · rw [if_neg (by omega), placeP, if_pos (by omega), withoutF_above h.2.2.2.2 (by omega)]
      rfl
    · rw [if_neg h2] at hm
      rw [if_pos h2]
      by_cases h1 : key ≤ a
      · rw [hg h.2.2.2.2 h1] at hm
        simp at hm
      · rw [ih hm, placeP, if_neg h1]
        rfl

/-- A store's step, as it landed: a key that may not be is told first. -/
def storeO (s : St) (o : Opn) : St × Int :=
  if o.a < 0 ∨ 255 < o.a then (s, -1) else
  if o.code ≠ 7 ∧ o.code ≠ 6 ∧ o.code ≠ 5 then (s, 0) else
  if o.code = 6 then (⟨s.kind, withoutF o.a s.L, s.shut, s.eng⟩, hadF o.a s.L) else
  if o.code = 5 then (if findF o.a 0 s.L < 0 ∧ s.L.length = 128 then (s, -2) else (⟨s.kind, withF o.a (cutZ o.b) false s.L, s.shut, s.eng⟩, hadF o.a s.L)) else
  (s, hadF o.a s.L)

/-- A state behind an operation, and what came of it, as it landed. -/
def stepO (s : St) (o : Opn) : St × Int :=
  if ¬ MayS s then (s, 0) else
  if s.shut = true then (s, -1125899906842624) else
  if o.code = 10 then (⟨s.kind, s.L, true, if 0 ≤ o.a ∧ o.a ≤ 2 then o.a else s.eng⟩, 0) else
  if s.kind ≤ 1 then oneS s o else if s.kind ≤ 3 then listS s o else if s.kind = 4 then storeO s o else ledgerS s o

/-- The state is what the document's step makes of it. -/
theorem storeO_state (s : St) (o : Opn) : (storeO s o).1 = (storeS s o).1 := by
  unfold storeO storeS
  by_cases h1 : o.a < 0 ∨ 255 < o.a
  · rw [if_pos h1]
    split
    · rfl
    · first | rfl | (rw [if_pos h1])
  · rw [if_neg h1, if_neg h1]

theorem stepO_state (s : St) (o : Opn) : (stepO s o).1 = (stepS s o).1 := by
  unfold stepO stepS
  split
  · rfl
  split
  · rfl
  split
  · rfl
  split
  · rfl
  split
  · rfl
  split
  · exact storeO_state s o
  · rfl

/-- So is the answer, but for operations that a store does not know, on what is no key. -/
theorem stepO_eq (s : St) (o : Opn) (h : s.kind ≠ 4 ∨ s.shut = true ∨ o.code = 10 ∨ o.code = 5 ∨ o.code = 6 ∨ o.code = 7 ∨ (0 ≤ o.a ∧ o.a ≤ 255)) : stepO s o = stepS s o := by
  unfold stepO stepS
  split
  · rfl
  split
  · rfl
  split
  · rfl
  split
  · rfl
  split
  · rfl
  split
  · rename_i hm hs hc _ _ hk
    unfold storeO storeS
    rcases h with h | h | h | h | h | h | h
    · exact absurd hk h
    · exact absurd h hs
    · exact absurd h hc
    · rw [if_neg (show ¬ (o.code ≠ 7 ∧ o.code ≠ 6 ∧ o.code ≠ 5) by omega), if_neg (show ¬ (o.code ≠ 7 ∧ o.code ≠ 6 ∧ o.code ≠ 5) by omega)]
    · rw [if_neg (show ¬ (o.code ≠ 7 ∧ o.code ≠ 6 ∧ o.code ≠ 5) by omega), if_neg (show ¬ (o.code ≠ 7 ∧ o.code ≠ 6 ∧ o.code ≠ 5) by omega)]
    · rw [if_neg (show ¬ (o.code ≠ 7 ∧ o.code ≠ 6 ∧ o.code ≠ 5) by omega), if_neg (show ¬ (o.code ≠ 7 ∧ o.code ≠ 6 ∧ o.code ≠ 5) by omega)]
    · rw [if_neg (show ¬ (o.a < 0 ∨ 255 < o.a) by omega), if_neg (show ¬ (o.a < 0 ∨ 255 < o.a) by omega)]
  · rfl

theorem stepO_not {s : St} (h : ¬ MayS s) (o : Opn) : stepO s o = (s, 0) := by
  unfold stepO
  rw [if_pos h]

theorem stepO_shut {s : St} (h : MayS s) (hs : s.shut = true) (o : Opn) : stepO s o = (s, -1125899906842624) := by
  unfold stepO
  rw [if_neg (fun e => e h), if_pos hs]

theorem stepO_may {s : St} (h : MayS s) (o : Opn) : MayS (stepO s o).1 := by rw [stepO_state]; exact step_may h o
theorem stepO_kind (s : St) (o : Opn) : (stepO s o).1.kind = s.kind := by rw [stepO_state]; exact step_kind s o
theorem stepO_shut' {s : St} (h : MayS s) (o : Opn) : (stepO s o).1.shut = (s.shut || decide (o.code = 10)) := by rw [stepO_state]; exact step_shut' h o

/-- A state behind operations, and what came of each, as it landed. -/
def foldO : St → List Opn → St × List Int
  | s, [] => (s, [])
  | s, o :: r => ((foldO (stepO s o).1 r).1, (stepO s o).2 :: (foldO (stepO s o).1 r).2)

theorem foldO_snoc : ∀ (l : List Opn) (s : St) (o : Opn), foldO s (l ++ [o]) = ((stepO (foldO s l).1 o).1, (foldO s l).2 ++ [(stepO (foldO s l).1 o).2])
  | [], _, _ => rfl
  | p :: r, s, o => by
    rw [List.cons_append, foldO, foldO_snoc r (stepO s p).1 o, foldO]
    rfl

end Go.Proofs.YtanmjihiceibbaaGreat

/- A snapshot behind records, over plain lists, and what follows. -/
namespace Go.Proofs.YtanmjihiceibbaaGreat

/-- A snapshot behind one record that fits. -/
def nextN (s : Snap) (r : Rec) : Snap := ⟨s.idx + 1, (stepO s.st r.op).1, noteL s.tab ⟨r.proc, r.seq, (stepO s.st r.op).2⟩⟩

/-- A snapshot behind records, or the first error. -/
def takeN : Snap → List Rec → Snap × Int
  | s, [] => (s, 0)
  | s, r :: l => if r.idx ≠ s.idx then (zeroN, 15) else if ¬ FitsR r then (zeroN, 1) else takeN (nextN s r) l

theorem takeN_err : ∀ (l : List Rec) (s : Snap), (takeN s l).2 ≠ 0 → takeN s l = (zeroN, (takeN s l).2)
  | [], s, h => absurd rfl h
  | r :: l, s, h => by
    rw [takeN] at h ⊢
    split
    · rfl
    · rename_i h1
      rw [if_neg h1] at h
      split
      · rfl
      · rename_i h2
        rw [if_neg h2] at h
        exact takeN_err l _ h

theorem takeN_app : ∀ (a b : List Rec) (s : Snap), takeN s (a ++ b) = if (takeN s a).2 = 0 then takeN (takeN s a).1 b else takeN s a
  | [], b, s => by simp [takeN]
  | r :: a, b, s => by
    rw [List.cons_append, takeN, takeN]
    by_cases h1 : r.idx ≠ s.idx
    · rw [if_pos h1, if_pos h1, if_neg (by simp)]
    · rw [if_neg h1, if_neg h1]
      by_cases h2 : ¬ FitsR r
      · rw [if_pos h2, if_pos h2, if_neg (by simp)]
      · rw [if_neg h2, if_neg h2]
        exact takeN_app a b _

theorem takeN_cut {s : Snap} {l : List Rec} (k : Nat) (h : (takeN s l).2 = 0) : (takeN s (l.take k)).2 = 0 ∧ takeN (takeN s (l.take k)).1 (l.drop k) = takeN s l := by
  have e := takeN_app (l.take k) (l.drop k) s
  rw [List.take_append_drop] at e
  by_cases h0 : (takeN s (l.take k)).2 = 0
  · rw [if_pos h0] at e
    exact ⟨h0, e.symm⟩
  · rw [if_neg h0] at e
    rw [e] at h
    exact absurd h h0

theorem takeN_cut_err {s : Snap} {l : List Rec} (k : Nat) : (takeN s (l.take k)).2 = 0 ∨ (takeN s (l.take k)).2 = (takeN s l).2 := by
  have e := takeN_app (l.take k) (l.drop k) s
  rw [List.take_append_drop] at e
  by_cases h0 : (takeN s (l.take k)).2 = 0
  · exact .inl h0
  · rw [if_neg h0] at e
    exact .inr (by rw [e])

theorem takeN_state : ∀ (l : List Rec) (s : Snap), (takeN s l).2 = 0 → (takeN s l).1.st = (foldO s.st (l.map (fun r => r.op))).1 ∧ (takeN s l).1.idx = s.idx + l.length
  | [], s, _ => by simp [takeN, foldO]
  | r :: l, s, h => by
    rw [takeN] at h ⊢
    by_cases h1 : r.idx ≠ s.idx
    · rw [if_pos h1] at h
      exact absurd h (by decide)
    rw [if_neg h1] at h ⊢
    by_cases h2 : ¬ FitsR r
    · rw [if_pos h2] at h
      exact absurd h (by decide)
    rw [if_neg h2] at h ⊢
    obtain ⟨i1, i2⟩ := takeN_state l (nextN s r) h
    rw [i1, i2, List.map_cons, foldO]
    refine ⟨rfl, ?_⟩
    show s.idx + 1 + _ = _
    rw [List.length_cons]
    omega

theorem takeN_few : ∀ (l : List Rec) (s : Snap), (takeN s l).2 = 0 → (takeN s l).1.tab.length ≤ s.tab.length + l.length
  | [], s, _ => by simp [takeN]
  | r :: l, s, h => by
    rw [takeN] at h ⊢
    by_cases h1 : r.idx ≠ s.idx
    · rw [if_pos h1] at h
      exact absurd h (by decide)
    rw [if_neg h1] at h ⊢
    by_cases h2 : ¬ FitsR r
    · rw [if_pos h2] at h
      exact absurd h (by decide)
    rw [if_neg h2] at h ⊢
    have i1 := takeN_few l (nextN s r) h
    have i2 := noteL_len s.tab ⟨r.proc, r.seq, (stepO s.st r.op).2⟩
    have e : (nextN s r).tab = noteL s.tab ⟨r.proc, r.seq, (stepO s.st r.op).2⟩ := rfl
    rw [e] at i1
    rw [List.length_cons]
    omega

end Go.Proofs.YtanmjihiceibbaaGreat

/- Blocks of records as bytes, over plain lists, and what follows. -/
namespace Go.Proofs.YtanmjihiceibbaaGreat

/-- The Seq of the last record that has a process; 0: there is none. -/
def lastSeq (l : List Rec) (p : Int) : Int := l.foldl (fun a r => if r.proc = p then r.seq else a) 0

theorem lastSeq_snoc (l : List Rec) (r : Rec) (p : Int) : lastSeq (l ++ [r]) p = if r.proc = p then r.seq else lastSeq l p := by
  unfold lastSeq
  rw [List.foldl_append]
  rfl

theorem lastSeq_nil (p : Int) : lastSeq [] p = 0 := rfl

theorem lastSeq_bd {l : List Rec} (p : Int) : (∀ r ∈ l, FitsR r) → 0 ≤ lastSeq l p ∧ lastSeq l p < 4611686018427387904 := by
  unfold lastSeq
  suffices h : ∀ (l : List Rec) (a : Int), (∀ r ∈ l, FitsR r) → 0 ≤ a → a < 4611686018427387904 → 0 ≤ l.foldl (fun a r => if r.proc = p then r.seq else a) a ∧ l.foldl (fun a r => if r.proc = p then r.seq else a) a < 4611686018427387904 by
    exact fun hl => h l 0 hl (by decide) (by decide)
  intro l
  induction l with
  | nil => intro a _ h0 h1; exact ⟨h0, h1⟩
  | cons r t ih =>
    intro a hf h0 h1
    rw [List.foldl_cons]
    have hr := hf r (by simp)
    obtain ⟨_, _, _, hs0, hs1, _⟩ := hr
    by_cases hp : r.proc = p
    · rw [if_pos hp]
      exact ih _ (fun s hs => hf s (by simp [hs])) hs0 hs1
    · rw [if_neg hp]
      exact ih _ (fun s hs => hf s (by simp [hs])) h0 h1

/-- A record behind others, as bytes. -/
def encOne (pre : List Rec) (r : Rec) : List UInt8 :=
  Lib.uvarint r.proc.toNat ++ (Lib.uvarint (Lib.zigzag (r.seq - lastSeq pre r.proc)) ++ (putOpL r.op ++ Lib.uvarint (Lib.zigzag r.resp)))

/-- Records behind others, as bytes. -/
def encRs (pre : List Rec) : List Rec → List UInt8
  | [] => []
  | r :: t => encOne pre r ++ encRs (pre ++ [r]) t

/-- A block's bytes. -/
def encB (l : List Rec) : List UInt8 := Lib.uvarint (l.headD zeroR).idx.toNat ++ (Lib.uvarint l.length ++ encRs [] l)

/-- Is each Index one more than the one ahead? -/
def chainR : Int → List Rec → Prop
  | _, [] => True
  | i, r :: t => r.idx = i ∧ chainR (i + 1) t

instance chainR_dec : ∀ (i : Int) (l : List Rec), Decidable (chainR i l)
  | _, [] => .isTrue trivial
  | i, r :: t => by
    unfold chainR
    exact @instDecidableAnd _ _ _ (chainR_dec (i + 1) t)

/-- May records stand in a block? -/
def FitsB (l : List Rec) : Prop := 1 ≤ l.length ∧ l.length ≤ 256 ∧ (∀ r ∈ l, FitsR r) ∧ chainR (l.headD zeroR).idx l

instance (l : List Rec) : Decidable (FitsB l) := by unfold FitsB; infer_instance

theorem encRs_app : ∀ (a b pre : List Rec), encRs pre (a ++ b) = encRs pre a ++ encRs (pre ++ a) b
  | [], b, pre => by simp [encRs]
  | r :: t, b, pre => by
    have e : pre ++ [r] ++ t = pre ++ r :: t := by simp
    rw [List.cons_append, encRs, encRs_app t b, e, encRs]
    exact (List.append_assoc _ _ _).symm

theorem encRs_snoc (l : List Rec) (k : Nat) (hk : k < l.length) : encRs [] (l.take (k + 1)) = encRs [] (l.take k) ++ encOne (l.take k) (l.getD k zeroR) := by
  have e : l.take (k + 1) = l.take k ++ [l.getD k zeroR] := by
    rw [List.take_add_one]
    simp [List.getD, hk]
  rw [e, encRs_app]
  simp [encRs]

/-- The record that bytes begin with, behind others, and how many bytes it has. -/
def oneL (pre : List Rec) (b : List UInt8) : Rec × Nat :=
  let i := (dec62 b).2
  let j := (dec64 (b.drop i)).2
  let k := (getOpL (b.drop (i + j))).2
  let m := (dec64 (b.drop (i + j + k))).2
  if i = 0 ∨ j = 0 ∨ k = 0 ∨ m = 0 then (zeroR, 0)
  else (⟨0, (dec62 b).1, IntKind.i64.wrap (lastSeq pre (dec62 b).1 + zag (dec64 (b.drop i)).1), (getOpL (b.drop (i + j))).1, zag (dec64 (b.drop (i + j + k))).1⟩, i + j + k + m)

theorem wrap_id {n : Int} (h : I64 n) : IntKind.i64.wrap n = n := by
  obtain ⟨h0, h1⟩ := h
  rw [IntKind.wrap_i64]
  omega

theorem diff_i64 {l : List Rec} (hl : ∀ r ∈ l, FitsR r) {r : Rec} (hr : FitsR r) : I64 (r.seq - lastSeq l r.proc) := by
  obtain ⟨h0, h1⟩ := lastSeq_bd r.proc hl
  obtain ⟨_, _, _, hs0, hs1, _⟩ := hr
  exact ⟨by omega, by omega⟩

theorem one_enc {pre : List Rec} (hl : ∀ r ∈ pre, FitsR r) {r : Rec} (hr : FitsR r) (t : List UInt8) : oneL pre (encOne pre r ++ t) = ({ r with idx := 0 }, (encOne pre r).length) := by
  have hd := diff_i64 hl hr
  have hresp := fitsR_resp hr
  obtain ⟨ho, _, _, hs0, hs1, hp0, hp1, _⟩ := id hr
  have E : encOne pre r ++ t = Lib.uvarint r.proc.toNat ++ (Lib.uvarint (Lib.zigzag (r.seq - lastSeq pre r.proc)) ++ (putOpL r.op ++ (Lib.uvarint (Lib.zigzag r.resp) ++ t))) := by
    unfold encOne
    simp only [List.append_assoc]
  have d1 := dec62_uvarint r.proc.toNat (Lib.uvarint (Lib.zigzag (r.seq - lastSeq pre r.proc)) ++ (putOpL r.op ++ (Lib.uvarint (Lib.zigzag r.resp) ++ t))) (by omega)
  rw [← E] at d1
  have e1 : (encOne pre r ++ t).drop (Lib.uvarint r.proc.toNat).length = Lib.uvarint (Lib.zigzag (r.seq - lastSeq pre r.proc)) ++ (putOpL r.op ++ (Lib.uvarint (Lib.zigzag r.resp) ++ t)) := by rw [E, List.drop_left]
  have d2 := dec64_uvarint (Lib.zigzag (r.seq - lastSeq pre r.proc)) (putOpL r.op ++ (Lib.uvarint (Lib.zigzag r.resp) ++ t)) (zig_lt hd)
  have e2 : (encOne pre r ++ t).drop ((Lib.uvarint r.proc.toNat).length + (Lib.uvarint (Lib.zigzag (r.seq - lastSeq pre r.proc))).length) = putOpL r.op ++ (Lib.uvarint (Lib.zigzag r.resp) ++ t) := by rw [← List.drop_drop, e1, List.drop_left]
  have d3 := getOp_put r.op ho (Lib.uvarint (Lib.zigzag r.resp) ++ t)
  have e3 : (encOne pre r ++ t).drop ((Lib.uvarint r.proc.toNat).length + (Lib.uvarint (Lib.zigzag (r.seq - lastSeq pre r.proc))).length + (putOpL r.op).length) = Lib.uvarint (Lib.zigzag r.resp) ++ t := by rw [← List.drop_drop, e2, List.drop_left]
  have d4 := dec64_uvarint (Lib.zigzag r.resp) t (zig_lt hresp)
  have n1 := uv_ne r.proc.toNat
  have n2 := uv_ne (Lib.zigzag (r.seq - lastSeq pre r.proc))
  have n4 := uv_ne (Lib.zigzag r.resp)
  have n3 : (putOpL r.op).length ≠ 0 := by
    unfold putOpL
    have := uv_ne r.op.code.toNat
    rw [List.length_append]
    omega
  unfold oneL
  simp only [d1, e1, d2, e2, d3, e3, d4]
  rw [if_neg (by rintro (h | h | h | h); exact n1 h; exact n2 h; exact n3 h; exact n4 h)]
  have hpn : ((r.proc.toNat : Nat) : Int) = r.proc := by omega
  rw [hpn, zag_zigzag _ hd.1 hd.2, zag_zigzag _ hresp.1 hresp.2]
  have hw : lastSeq pre r.proc + (r.seq - lastSeq pre r.proc) = r.seq := by omega
  rw [hw, wrap_id ⟨by omega, by omega⟩]
  congr 1
  unfold encOne
  simp only [List.length_append]
  omega

theorem uv_inj62 {a b : Nat} (ha : a < 4611686018427387904) (hb : b < 4611686018427387904) {x y : List UInt8} (h : Lib.uvarint a ++ x = Lib.uvarint b ++ y) : a = b ∧ x = y := by
  have d1 := dec62_uvarint a x ha
  have d2 := dec62_uvarint b y hb
  rw [h, d2] at d1
  have e := (Prod.mk.injEq ..).mp d1
  have hab : a = b := e.1.symm
  subst hab
  exact ⟨rfl, List.append_cancel_left h⟩

/-- Of two lists neither's bytes begin the other's. -/
theorem encRs_inj : ∀ (l l' pre : List Rec) (i : Int) (t : List UInt8), l.length = l'.length → chainR i l → chainR i l' → (∀ r ∈ pre, FitsR r) → (∀ r ∈ l, FitsR r) → (∀ r ∈ l', FitsR r) → encRs pre l' = encRs pre l ++ t → l' = l ∧ t = []
  | [], [], pre, i, t, _, _, _, _, _, _, h => ⟨rfl, by simpa [encRs] using h.symm⟩
  | r :: u, r' :: u', pre, i, t, hlen, hc, hc', hp, hf, hf', h => by
    have hr := hf r (by simp)
    have hr' := hf' r' (by simp)
    have h1 := one_enc hp hr (encRs (pre ++ [r]) u ++ t)
    have h2 := one_enc hp hr' (encRs (pre ++ [r']) u')
    have hh : encOne pre r' ++ encRs (pre ++ [r']) u' = encOne pre r ++ (encRs (pre ++ [r]) u ++ t) := by
      rw [encRs, encRs] at h
      rw [h, List.append_assoc]
    rw [hh, h1] at h2
    have hs := ((Prod.mk.injEq ..).mp h2).1
    have hri : r.idx = r'.idx := by rw [hc.1, hc'.1]
    have hrr : r' = r := by
      obtain ⟨i1, p1, s1, o1, e1⟩ := r
      obtain ⟨i2, p2, s2, o2, e2⟩ := r'
      simp only [Rec.mk.injEq, true_and] at hs hri ⊢
      obtain ⟨h1, h2, h3, h4⟩ := hs
      exact ⟨hri.symm, h1.symm, h2.symm, h3.symm, h4.symm⟩
    subst hrr
    have hrest : encRs (pre ++ [r']) u' = encRs (pre ++ [r']) u ++ t := List.append_cancel_left hh
    obtain ⟨q1, q2⟩ := encRs_inj u u' (pre ++ [r']) (i + 1) t (by simpa using hlen) hc.2 hc'.2 (fun s hs => by
      rcases List.mem_append.1 hs with h | h
      · exact hp s h
      · simp at h; rw [h]; exact hr) (fun s hs => hf s (by simp [hs])) (fun s hs => hf' s (by simp [hs])) hrest
    exact ⟨by rw [q1], q2⟩

theorem encB_inj {l l' : List Rec} (hl : FitsB l) (hl' : FitsB l') {t : List UInt8} (h : encB l' = encB l ++ t) : l' = l ∧ t = [] := by
  obtain ⟨n1, n2, hf, hc⟩ := hl
  obtain ⟨n1', n2', hf', hc'⟩ := hl'
  unfold encB at h
  simp only [List.append_assoc] at h
  have hm : ∀ l : List Rec, 1 ≤ l.length → l.headD zeroR ∈ l := fun l h => by
    match l, h with
    | r :: u, _ => simp
  obtain ⟨_, i0, i1, _⟩ := hf _ (hm l n1)
  obtain ⟨_, j0, j1, _⟩ := hf' _ (hm l' n1')
  obtain ⟨k1, k2⟩ := uv_inj62 (by omega) (by omega) h
  obtain ⟨k3, k4⟩ := uv_inj62 (by omega) (by omega) k2
  have hidx : (l.headD zeroR).idx = (l'.headD zeroR).idx := by omega
  rw [← hidx] at hc'
  exact encRs_inj l l' [] _ t (by omega) hc hc' (fun r hr => by simp at hr) hf hf' k4

theorem encB_apart {l l' : List Rec} (hl : FitsB l) (hl' : FitsB l') : encB l = encB l' ↔ l = l' := by
  constructor
  · intro h
    exact (encB_inj hl' hl (t := []) (by rw [List.append_nil]; exact h)).1
  · intro h
    rw [h]

theorem encB_cut {l l' : List Rec} (hl : FitsB l) (hl' : FitsB l') {n : Nat} (hn : n < (encB l).length) : encB l' ≠ (encB l).take n := by
  intro h
  have h2 : encB l = encB l' ++ (encB l).drop n := by rw [h, List.take_append_drop]
  obtain ⟨_, h3⟩ := encB_inj hl' hl h2
  have h4 := congrArg List.length h3
  rw [List.length_drop] at h4
  simp at h4
  omega

theorem encB_more {l l' : List Rec} (hl : FitsB l) (hl' : FitsB l') {t : List UInt8} (ht : t ≠ []) : encB l' ≠ encB l ++ t := fun h => ht (encB_inj hl hl' h).2

theorem encB_ne {l : List Rec} : encB l ≠ [] := by
  unfold encB
  intro h
  have := congrArg List.length h
  have h2 := uv_ne (l.headD zeroR).idx.toNat
  simp only [List.length_append, List.length_nil] at this
  omega

/-- What bytes are: the records of which they are the bytes, or none and ErrForm. -/
def DecB (b : List UInt8) (l : List Rec) (e : Int) : Prop := (e = 0 ∧ FitsB l ∧ encB l = b) ∨ (e = 3 ∧ l = [] ∧ ∀ l', FitsB l' → encB l' ≠ b)

theorem DecB.unique {b : List UInt8} {l l' : List Rec} {e e' : Int} (h : DecB b l e) (h' : DecB b l' e') : l = l' ∧ e = e' := by
  rcases h with ⟨h1, h2, h3⟩ | ⟨h1, h2, h3⟩
  · rcases h' with ⟨k1, k2, k3⟩ | ⟨k1, k2, k3⟩
    · exact ⟨(encB_apart h2 k2).1 (h3.trans k3.symm), by omega⟩
    · exact absurd h3 (k3 l h2)
  · rcases h' with ⟨k1, k2, k3⟩ | ⟨k1, k2, k3⟩
    · exact absurd k3 (h3 l' k2)
    · exact ⟨by rw [h2, k2], by omega⟩

end Go.Proofs.YtanmjihiceibbaaGreat

/- Slices of records in memory: what one reads ('RdR'), what a call owns ('OwnR'), and append onto them. -/
namespace Go.Proofs.YtanmjihiceibbaaGreat
open Go.RowKit

/-- A record's seven cells. -/
def RecAt (w : World) (b o : Nat) (r : Rec) : Prop :=
  w.cell? ⟨b, o, none⟩ = some (.int .i64 r.idx) ∧ w.cell? ⟨b, o + 1, none⟩ = some (.int .i64 r.proc) ∧ w.cell? ⟨b, o + 2, none⟩ = some (.int .i64 r.seq) ∧ w.cell? ⟨b, o + 3, none⟩ = some (.int .i64 r.op.code) ∧ w.cell? ⟨b, o + 4, none⟩ = some (.int .i64 r.op.a) ∧ w.cell? ⟨b, o + 5, none⟩ = some (.int .i64 r.op.b) ∧ w.cell? ⟨b, o + 6, none⟩ = some (.int .i64 r.resp)

set_option maxRecDepth 100000 in
theorem RecAt.lt {w : World} {b o : Nat} {r : Rec} (h : RecAt w b o r) : b < w.heap.size := World.block_lt_of_cell? w ⟨b, o, none⟩ h.1

set_option maxRecDepth 100000 in
theorem RecAt.keep {w w' : World} {b o : Nat} {r : Rec} (h : RecAt w b o r) (hk : w'.heap[b]? = w.heap[b]?) : RecAt w' b o r := by
  have hc : ∀ i, w'.cell? ⟨b, i, none⟩ = w.cell? ⟨b, i, none⟩ := fun i => World.cell?_of_block (a := ⟨b, i, none⟩) hk
  unfold RecAt at h ⊢
  simp only [hc]
  exact h

/-- The slice value v reads, in the world w, as the records l. -/
def RdR (w : World) (v : Value) (l : List Rec) : Prop :=
  ∃ ao cap, v = .slice ao l.length cap ∧ l.length ≤ cap ∧ cap ≤ maxLen ∧ (ao = none → cap = 0) ∧ (∀ r ∈ l, RecOk r) ∧
    (l = [] ∨ ∃ b off, ao = some ⟨b, off, none⟩ ∧ ∀ j, j < l.length → RecAt w b (off + j * 7) (l.getD j zeroR))

set_option maxRecDepth 100000 in
theorem RdR.nil (w : World) : RdR w (.slice none 0 0) [] := ⟨none, 0, rfl, Nat.le_refl _, Nat.zero_le _, fun _ => rfl, (fun r h => by simp at h), .inl rfl⟩

set_option maxRecDepth 100000 in
theorem RdR.below {w w' : World} {v : Value} {l : List Rec} (h : RdR w v l) {B : Nat} (hb : Below B w w') (hB : w.heap.size ≤ B) : RdR w' v l := by
  obtain ⟨ao, cap, h1, h2, h3, hn, hw, h4⟩ := h
  refine ⟨ao, cap, h1, h2, h3, hn, hw, ?_⟩
  rcases h4 with h4 | ⟨b, off, h5, h6⟩
  · exact .inl h4
  · refine .inr ⟨b, off, h5, fun j hj => ?_⟩
    have h7 := h6 j hj
    exact h7.keep (hb.block b (by have := h7.lt; omega))

set_option maxRecDepth 100000 in
theorem RdR.front {w : World} {ao : Option Addr} {n cap : Nat} {l : List Rec} (h : RdR w (.slice ao n cap) l) (k : Nat) (hk : k ≤ l.length) : RdR w (.slice ao k cap) (l.take k) := by
  obtain ⟨ao', cap', hv, h1, h2, h3, hw, h4⟩ := h
  simp only [Value.slice.injEq] at hv
  obtain ⟨rfl, _, rfl⟩ := hv
  have hlen : (l.take k).length = k := by simp; omega
  refine ⟨ao, cap, by rw [hlen], by omega, h2, h3, fun r hr => hw r (List.mem_of_mem_take hr), ?_⟩
  rcases h4 with h4 | ⟨b, off, h5, h6⟩
  · exact .inl (by rw [h4]; simp)
  · refine .inr ⟨b, off, h5, fun j hj => ?_⟩
    have hj2 : j < k := by omega
    have e : (l.take k).getD j zeroR = l.getD j zeroR := by simp [List.getD, hj2]
    rw [e]
    exact h6 j (by omega)

/-- The cells of records. -/
def recCells : List Rec → List Value
  | [] => []
  | r :: t => (recC r).toList ++ recCells t

set_option maxRecDepth 100000 in
theorem recCells_length : ∀ l : List Rec, (recCells l).length = l.length * 7
  | [] => rfl
  | r :: t => by
    rw [recCells, List.length_append, recCells_length t, List.length_cons]
    simp [recC]
    omega

set_option maxRecDepth 100000 in
theorem recCells_app : ∀ a b : List Rec, recCells (a ++ b) = recCells a ++ recCells b
  | [], _ => rfl
  | r :: t, b => by rw [List.cons_append, recCells, recCells_app t b, recCells, List.append_assoc]

set_option maxRecDepth 100000 in
theorem recCells_get : ∀ (l : List Rec) (j k : Nat), j < l.length → k < 7 → (recCells l)[j * 7 + k]? = (recC (l.getD j zeroR))[k]?
  | r :: t, 0, k, _, hk => by
    rw [recCells, Nat.zero_mul, Nat.zero_add, List.getElem?_append_left (by simp [recC]; omega)]
    simp [List.getD]
  | r :: t, j + 1, k, hj, hk => by
    have e : (j + 1) * 7 + k = (recC r).toList.length + (j * 7 + k) := by simp [recC]; omega
    rw [recCells, e, List.getElem?_append_right (by omega), Nat.add_sub_cancel_left, recCells_get t j k (by simpa using hj) hk]
    simp [List.getD]

set_option maxRecDepth 100000 in
theorem recCells_one (l : List Rec) : ∀ u ∈ recCells l, u.oneCell' = true := by
  induction l with
  | nil => intro u hu; simp [recCells] at hu
  | cons r t ih =>
    intro u hu
    rw [recCells] at hu
    rcases List.mem_append.1 hu with h | h
    · simp [recC] at h
      rcases h with rfl | rfl | rfl | rfl | rfl | rfl | rfl <;> rfl
    · exact ih u h

/-- The slice value v lies at the head of a row of its own, from block B on, that holds the records l. -/
def OwnR (w : World) (B : Nat) (v : Value) (l : List Rec) : Prop := w.ownsRow B 42 7 v l.length (recCells l)

set_option maxRecDepth 100000 in
theorem OwnR.nil (w : World) (B : Nat) : OwnR w B (.slice none 0 0) [] := World.ownsRow_nil w B 42 7

set_option maxRecDepth 100000 in
theorem OwnR.rd {w : World} {B : Nat} {v : Value} {l : List Rec} (h : OwnR w B v l) (hw : ∀ r ∈ l, RecOk r) : RdR w v l := by
  rcases h.2 with ⟨hv, hn⟩ | ⟨g, cap, cur, hv, hb, hg, hnc, hcm, hcs, htake⟩
  · exact ⟨none, 0, by rw [hv, hn], by omega, Nat.zero_le _, fun _ => rfl, hw, .inl (List.eq_nil_of_length_eq_zero hn)⟩
  · refine ⟨some ⟨g, 0, none⟩, cap, hv, hnc, hcm, (fun e => by cases e), hw, .inr ⟨g, 0, rfl, fun j hj => ?_⟩⟩
    have hc : ∀ k u, k < 7 → (recC (l.getD j zeroR))[k]? = some u → w.cell? ⟨g, 0 + j * 7 + k, none⟩ = some u := fun k u hk hu => by
      have := World.ownsRow.cells h (g := g) (by rw [hv]; rfl) (j * 7 + k) u ((recCells_get l j k hj hk).trans hu)
      rw [Addr.add_lit] at this
      rw [Nat.add_assoc]
      exact this
    exact ⟨hc 0 _ (by decide) rfl, hc 1 _ (by decide) rfl, hc 2 _ (by decide) rfl, hc 3 _ (by decide) rfl, hc 4 _ (by decide) rfl, hc 5 _ (by decide) rfl, hc 6 _ (by decide) rfl⟩

set_option maxRecDepth 100000 in
theorem OwnR.below {w w' : World} {B B' : Nat} {v : Value} {l : List Rec} (h : OwnR w B v l) (hb : Below B' w w') (hB : w.heap.size ≤ B') : OwnR w' B v l := by
  obtain ⟨h1, h2⟩ := h
  refine ⟨h1, ?_⟩
  rcases h2 with h2 | ⟨g, cap, cur, hv, hbg, hg, r⟩
  · exact .inl h2
  · have hlt : g < w.heap.size := (Array.getElem?_eq_some_iff.1 hg).1
    exact .inr ⟨g, cap, cur, hv, hbg, by rw [hb.block g (by omega)]; exact hg, r⟩

set_option maxRecDepth 100000 in
theorem OwnR.mono {w : World} {B B' : Nat} {v : Value} {l : List Rec} (h : OwnR w B v l) (hB : B' ≤ B) : OwnR w B' v l := by
  obtain ⟨h1, h2⟩ := h
  refine ⟨h1, ?_⟩
  rcases h2 with h2 | ⟨g, cap, cur, hv, hb, r⟩
  · exact .inl h2
  · exact .inr ⟨g, cap, cur, hv, by omega, r⟩

set_option maxRecDepth 100000 in
theorem OwnR.shape {w : World} {B : Nat} {v : Value} {l : List Rec} (h : OwnR w B v l) : ∃ ao cap, v = .slice ao l.length cap := by
  rcases h.2 with ⟨hv, hn⟩ | ⟨g, cap, cur, hv, _⟩
  · exact ⟨none, 0, by rw [hv, hn]⟩
  · exact ⟨_, _, hv⟩

set_option maxRecDepth 100000 in
theorem info_rec : (Tryz.prog.info? 42).map (fun i => (i.zero, i.size, i.bytes)) = some (some (.agg #[.int .i64 0, .int .i64 0, .int .i64 0, .int .i64 0, .int .i64 0, .int .i64 0, .int .i64 0]), 7, 56) := by kernel_rfl

set_option maxRecDepth 100000 in
/-- One more record behind a row of one's own. -/
theorem run_append_rec (w : World) (ty : TypeId) (B : Nat) (v : Value) (l : List Rec) (h : OwnR w B v l) (r : Rec) (hlim : l.length ≤ 1000000) (hbase : B ≤ w.heap.size) :
    ∃ v' w', (Builtin.append_ #[43, 43] ty #[v, .slice (some ⟨w.heap.size, 0, none⟩) 1 1]).run Tryz.prog (w.alloc (.cells (recC r) 42)) = .ok v' w' ∧ OwnR w' B v' (l ++ [r]) ∧ Below B w w' := by
  obtain ⟨i0, hi, hz0, hz1, hz2⟩ := info_parts info_rec
  obtain ⟨v', w', hrun, ho, hg, _⟩ := run_append_own (P := Tryz.prog) (w.alloc (.cells (recC r) 42)) B 43 ty 42 i0 _ 7 56 Tryz.underlying43 hi hz0 hz1 hz2 rfl (by decide) v l.length (recCells l) (h.alloc _)
    ⟨w.heap.size, 0, none⟩ 1 1 (recCells [r]) (recCells_length [r]) (fun j u hj => by
      rw [Addr.add_lit, Nat.zero_add, cell_of_row _ w.heap.size j _ 42 (0, 0) (heap_alloc_new w _)]
      simpa [recCells] using hj) (recCells_one [r]) (by unfold maxLen; omega) (by omega) (by simp; omega)
  refine ⟨v', w', hrun, ?_, ?_⟩
  · unfold OwnR
    rw [List.length_append, recCells_app]
    exact ho
  · exact ((Below.refl _ _).alloc hbase _).grown hg (by simp; omega) (fun k hk => (World.ownsRow.lt h k hk).1)

set_option maxRecDepth 100000 in
theorem wpList_append_rec (w : World) {ops : Array Oper} {rest : List Oper} {o : Oper} {a : Act} {Q : Exit → Act → World → Prop} (hgd : o.guard = none) (s x : Operand)
    (ho : o.op = .call { callee := .builtin .append, args := #[s, x], argTypes := #[43, 43] })
    (B : Nat) (v : Value) (l : List Rec) (hs : a.eval s = v) (hown : OwnR w B v l) (r : Rec) (hx : a.eval x = .slice (some ⟨w.heap.size, 0, none⟩) 1 1)
    (hlim : l.length ≤ 1000000) (hbase : B ≤ w.heap.size)
    (h : ∀ v' w', OwnR w' B v' (l ++ [r]) → Below B w w' → wpList Tryz.prog ops Q rest (a.put o.dst v') w') : wpList Tryz.prog ops Q (o :: rest) a (w.alloc (.cells (recC r) 42)) :=
  wpList_plain hgd fun _ hK => by
    obtain ⟨v', w', hrun, h2, h3⟩ := run_append_rec w o.type B v l hown r hlim hbase
    unfold Oper.wp execOp
    simp only [ho, resolve, invoke, builtin, Sem.run_bind, Sem.run_pure, Result.andThen_ok, List.map_toArray, List.map_cons, List.map_nil, hs, hx, hrun]
    exact hK _ _ (h v' w' h2 h3)

set_option maxRecDepth 100000 in
theorem elem_recs : Tryz.prog.elem 43 = 42 := by kernel_rfl

set_option maxRecDepth 100000 in
theorem under_recs : Tryz.prog.underlying 43 = some (.slice (Tryz.prog.elem 43)) := by rw [elem_recs]; exact Tryz.underlying43

set_option maxRecDepth 100000 in
theorem size_rec (w : World) : (sizeOf 42).run Tryz.prog w = .ok 7 w := by
  obtain ⟨i0, hi, _, hz1, _⟩ := info_parts info_rec
  simp [sizeOf, typeInfo, hi, hz1]

set_option maxRecDepth 100000 in
/-- The first records of a slice. -/
theorem run_front_recs (W : World) (ao : Option Addr) (n cap : Nat) (i : Int) (k : Nat) (hi : i = (k : Int)) (hk : k ≤ cap) :
    (Instr.sliceAt 43 (.slice ao n cap) none (some (.int .i64 i)) none).run Tryz.prog W = .ok (.slice ao k cap) W := by
  subst hi
  rw [run_sliceAt_slice W 43 _ _ _ _ under_recs, run_slice_h W 43 ao n cap under_recs .i64 (k : Int) (by omega) (by omega), elem_recs, size_rec]
  have e : sliced ao 0 k cap 7 = .slice ao k cap := by
    unfold sliced
    cases ao <;> simp [Addr.add]
  simp [e]

end Go.Proofs.YtanmjihiceibbaaGreat

/- Contracts of objs: within and what it answers, cut, full. -/
namespace Go.Proofs.YtanmjihiceibbaaGreat
open Go.RowKit

set_option maxRecDepth 100000 in
/-- What lies from lo to hi. -/
theorem is_any (n lo hi : Int) (a b : Nat) (w : World) (ha : w.cell? ⟨a, 0, none⟩ = some (.int .i64 lo)) (hb : w.cell? ⟨b, 0, none⟩ = some (.int .i64 hi)) :
    Calls Tryz.prog 108 #[.int .i64 n, .pointer (some ⟨a, 0, none⟩), .pointer (some ⟨b, 0, none⟩)] w fun e w' => e = .returned (.bool (decide (lo ≤ n ∧ n ≤ hi))) ∧ w' = w := by
  have HD : Hid ((decide (lo ≤ n) && decide (n ≤ hi)) = decide (lo ≤ n ∧ n ≤ hi)) := (Bool.decide_and _ _).symm
  have HT : Hid (lo ≤ n → decide (n ≤ hi) = decide (lo ≤ n ∧ n ≤ hi)) := fun h => by rw [← HD.out, decide_eq_true h, Bool.true_and]
  by_cases h1 : lo ≤ n
  · go_enter Tryz.func108, Tryz.ntmps108
    go_wp2
    go_ret
    exact ⟨ret_b (HT.out h1), rfl⟩
  · go_enter Tryz.func108, Tryz.ntmps108
    go_wp2
    go_ret
    exact ⟨ret_b (by rw [decide_eq_false (Int.not_le.2 h1), Bool.false_and]), rfl⟩

set_option maxRecDepth 100000 in
theorem within_any (lo hi : Int) (w : World) :
    Calls Tryz.prog 79 #[.int .i64 lo, .int .i64 hi] w fun e w' => ∃ a b, e = .returned (.func (.func 108) #[] #[.pointer (some ⟨a, 0, none⟩), .pointer (some ⟨b, 0, none⟩)]) ∧ w'.cell? ⟨a, 0, none⟩ = some (.int .i64 lo) ∧ w'.cell? ⟨b, 0, none⟩ = some (.int .i64 hi) ∧ Below w.heap.size w w' := by
  have hmf : ∀ (fn : Fn) (first cap : Array Value) (w : World), (Instr.makeFunc fn first cap).run Tryz.prog w = .ok (.func fn first cap) w := fun _ _ _ _ => rfl
  have HB : Hid (∀ x y, Below w.heap.size w ((w.alloc x).alloc y)) := fun x y => ((Below.refl _ _).alloc (Nat.le_refl _) x).alloc (by simp) y
  go_enter Tryz.func79, Tryz.ntmps79
  go_wp2
  go_ret
  refine ⟨_, _, rfl, ?_, ?_, HB.out _ _⟩
  · rw [World.cell?_alloc_past _ _ _ (by simp), World.cell?_alloc_at _ _ _ _ rfl]; rfl
  · rw [World.cell?_alloc_at _ _ _ _ (by simp)]; rfl

theorem cut_maxmin (n : Int) : max (-1099511627776) (min n 1099511627776) = cutZ n := by
  unfold cutZ
  split
  · omega
  · split <;> omega

set_option maxRecDepth 100000 in
theorem cutO_any (n : Int) (w : World) : Calls Tryz.prog 113 #[.int .i64 n] w fun e w' => e = .returned (.int .i64 (cutZ n)) ∧ w' = w := by
  by_cases h1 : 1099511627776 < n
  · go_enter Tryz.func113, Tryz.ntmps113
    go_wp2
    go_ret
    refine ⟨ret_i ?_, rfl⟩
    first
      | exact cut_maxmin n
      | (unfold cutZ; split <;> (try split) <;> omega)
  by_cases h2 : n ≤ -1099511627776
  · go_enter Tryz.func113, Tryz.ntmps113
    go_wp2
    go_ret
    refine ⟨ret_i ?_, rfl⟩
    first
      | exact cut_maxmin n
      | (unfold cutZ; split <;> (try split) <;> omega)
  · go_enter Tryz.func113, Tryz.ntmps113
    go_wp2
    go_ret
    refine ⟨ret_i ?_, rfl⟩
    first
      | exact cut_maxmin n
      | (unfold cutZ; split <;> (try split) <;> omega)

set_option maxRecDepth 100000 in
theorem full_any (ao : Option Addr) (n cap : Nat) (w : World) : Calls Tryz.prog 117 #[.slice ao n cap] w fun e w' => e = .returned (.bool (decide (n = 128))) ∧ w' = w := by
  by_cases h : n = 128
  · have HD : Hid (decide (n = 128) = true) := decide_eq_true h
    have hq : ((n : Int) == 128) = true := beq_iff_eq.2 (by omega)
    clear h
    go_enter Tryz.func117, Tryz.ntmps117
    go_wp2
    go_ret
    exact ⟨ret_b HD.out.symm, rfl⟩
  · have HD : Hid (decide (n = 128) = false) := decide_eq_false h
    have hq : ((n : Int) == 128) = false := beq_eq_false_iff_ne.2 (by omega)
    clear h
    go_enter Tryz.func117, Tryz.ntmps117
    go_wp2
    go_ret
    exact ⟨ret_b HD.out.symm, rfl⟩

end Go.Proofs.YtanmjihiceibbaaGreat

/- Contracts of objs: place, look, put, drop. -/
namespace Go.Proofs.YtanmjihiceibbaaGreat
open Go.RowKit

theorem ret_ib {a b : Int} {c d : Bool} (h : a = b) (h2 : c = d) : Ending.returned (.tuple #[.int .i64 a, .bool c]) = .returned (.tuple #[.int .i64 b, .bool d]) := by rw [h, h2]

set_option maxRecDepth 100000 in
set_option maxHeartbeats 1000000 in
theorem place_any (v : Value) (l : List Int) (key : Int) (w : World) (hr : RdI w v l) (he : l.length % 2 = 0) (hlim : l.length ≤ 1000000) :
    Calls Tryz.prog 125 #[v, .int .i64 key] w fun e w' => e = .returned (.tuple #[.int .i64 (placeP key l), .bool (decide (placeP key l < l.length ∧ l.getD (placeP key l) 0 = key))]) ∧ Below w.heap.size w w' := by
  obtain ⟨ao, cap, rfl, -, -, -, -, hao⟩ := hr
  have HAO := hide' hao
  clear hao
  obtain ⟨P, hP⟩ : ∃ P, P = placeP key l := ⟨_, rfl⟩
  obtain ⟨R, hR⟩ : ∃ R, R = decide (P < l.length ∧ l.getD P 0 = key) := ⟨_, rfl⟩
  rw [← hP, ← hR]
  have HP := hide' hP
  have HR := hide' hR
  clear hP hR
  go_enter Tryz.func125, Tryz.ntmps125
  go_wp2
  go_loop [6] (fun i => ∃ k : Nat, i = .int .i64 k ∧ k ≤ l.length ∧ k % 2 = 0 ∧ Hid (∀ j, j < k → j % 2 = 0 → l.getD j 0 < key)) (fun i => l.length - (intOf i).toNat)
  case atStart => exact ⟨0, rfl, Nat.zero_le _, rfl, fun j hj => by omega⟩
  case round =>
    obtain ⟨k, rfl, hk, hk2, hall⟩ := hrel
    have HPK : Hid (P = k + placeP key (l.drop k)) := HP.out.trans (placeP_drop key l k he hk2 hk hall.out)
    by_cases hlt : k < l.length
    · rcases HAO.out with h0 | ⟨g, off, rfl, hc⟩
      · rw [h0] at hlt; simp at hlt
      have hck := hc k hlt
      clear hc
      obtain ⟨y, hy⟩ : ∃ y, y = l.getD k 0 := ⟨_, rfl⟩
      rw [← hy] at hck
      have HY := hide' hy
      clear hy
      by_cases hge : key ≤ y
      · have HK : Hid (P = k) := HPK.out.trans (by rw [placeP_stop key l k (by omega) (by rw [← HY.out]; exact hge)]; exact Nat.add_zero k)
        have HG : Hid (R = (y == key)) := by
          rw [HR.out, HK.out, ← HY.out]
          by_cases e : y = key
          · rw [beq_iff_eq.2 e]; exact decide_eq_true ⟨hlt, e⟩
          · rw [beq_eq_false_iff_ne.2 e]; exact decide_eq_false (fun h => e h.2)
        have hbk : (k : Int) < (l.length : Int) := by omega
        go_wp2
        go_quiet (fail)
        go_wp2
        go_ret2
        exact ⟨ret_ib (by rw [HK.out]) HG.out.symm, below_drewN (Below.refl _ _) _⟩
      · go_wp2
        go_round
        case rel =>
          refine ⟨k + 2, by go_num, by omega, by omega, fun j hj hj2 => ?_⟩
          by_cases e : j = k
          · rw [e, ← HY.out]; omega
          · exact hall.out j (by omega) hj2
        case measure => simp [intOf]; omega
    · have HK : Hid (P = l.length) := by
        have e : k = l.length := by omega
        rw [HPK.out, e, List.drop_length]
        exact rfl
      have HG : Hid (R = false) := HR.out.trans (decide_eq_false (fun h => by have := h.1; rw [HK.out] at this; omega))
      go_wp2
      go_ret2
      exact ⟨ret_ib (by rw [HK.out]) HG.out.symm, Below.refl _ _⟩

/-- place, of pairs. -/
theorem placeH_any (v : Value) (l : List Int) (key least lo : Int) (w : World) (hr : RdI w v l) (hp : Pairs least lo l) (hlim : l.length ≤ 1000000) :
    Calls Tryz.prog 125 #[v, .int .i64 key] w fun e w' => e = .returned (.tuple #[.int .i64 (placeP key l), .bool (hitP key l)]) ∧ Below w.heap.size w w' := by
  rw [(placeP_hit key least l lo hp).1]
  exact place_any v l key w hr (pairs_even hp) hlim

theorem pairs_i64 {least : Int} : ∀ {l : List Int} {lo : Int}, -1099511627776 ≤ least → -1 ≤ lo → Pairs least lo l → ∀ x ∈ l, I64 x
  | [], _, _, _, _, x, hx => by simp at hx
  | [_], _, _, _, h, _, _ => by simp [Pairs] at h
  | a :: b :: r, lo, hl, hlo, h, x, hx => by
    unfold Pairs at h
    have ih := pairs_i64 (l := r) (lo := a) hl (by omega) h.2.2.2.2 x
    simp at hx
    rcases hx with rfl | rfl | hx
    · exact i64_small (by omega) (by omega)
    · exact i64_small (by omega) (by omega)
    · exact ih hx

set_option maxRecDepth 100000 in
set_option maxHeartbeats 1000000 in
theorem look_any (v : Value) (l : List Int) (key least lo : Int) (w : World) (hr : RdI w v l) (hp : Pairs least lo l) (hlim : l.length ≤ 1000000) :
    Calls Tryz.prog 115 #[v, .int .i64 key] w fun e w' => e = .returned (.tuple #[.int .i64 ((getP key l).getD 0), .bool (hitP key l)]) ∧ Below w.heap.size w w' := by
  have HPL : Hid (Calls Tryz.prog 125 #[v, .int .i64 key] w fun e w' => e = .returned (.tuple #[.int .i64 (placeP key l), .bool (hitP key l)]) ∧ Below w.heap.size w w') := placeH_any v l key least lo w hr hp hlim
  have HH := hide' (placeP_hit key least l lo hp).2
  obtain ⟨ao, cap, rfl, -, -, -, -, hao⟩ := hr
  have HAO := hide' hao
  obtain ⟨G, hG⟩ : ∃ G, G = (getP key l).getD 0 := ⟨_, rfl⟩
  rw [← hG]
  have HG := hide' hG
  clear hao hp hG
  cases hh : hitP key l
  · rw [hh] at HPL
    have HZ : Hid (0 = G) := by
      have : getP key l = none := by
        unfold hitP at hh
        cases h : getP key l with
        | none => rfl
        | some x => rw [h] at hh; simp at hh
      rw [HG.out, this]
      exact rfl
    clear hh HH
    go_enter Tryz.func115, Tryz.ntmps115
    go_wp2_with fail
    refine HPL.out.mono ?_
    rintro e W1 ⟨rfl, hb1⟩
    have HB1 := hide' hb1
    clear hb1
    go_wp2
    go_ret2
    exact ⟨ret_ib HZ.out rfl, HB1.out⟩
  · rw [hh] at HPL
    obtain ⟨h1, h2⟩ := HH.out hh
    have HZ : Hid (l.getD (placeP key l + 1) 0 = G) := by
      rw [HG.out, h1]
      exact rfl
    rcases HAO.out with h0 | ⟨g, off, rfl, hc⟩
    · rw [h0] at h2; simp at h2
    have HC : Hid (∀ W, Below w.heap.size w W → W.cell? ⟨g, off + (placeP key l + 1), none⟩ = some (.int .i64 (l.getD (placeP key l + 1) 0))) := fun W h => (h.cell (World.block_lt_of_cell? w ⟨g, off + (placeP key l + 1), none⟩ (hc _ h2))).trans (hc _ h2)
    clear hh HH h1 HAO hc HG
    generalize l.getD (placeP key l + 1) 0 = y at *
    generalize placeP key l = P at *
    have hPl : (P : Int) + 1 < (l.length : Int) := by omega
    clear h2
    go_enter Tryz.func115, Tryz.ntmps115
    go_wp2_with fail
    refine HPL.out.mono ?_
    rintro e W1 ⟨rfl, hb1⟩
    have HB1 := hide' hb1
    have hg := HC.out _ hb1
    clear hb1
    go_wp2
    go_ret2
    exact ⟨ret_ib HZ.out rfl, HB1.out⟩

set_option maxRecDepth 100000 in
set_option maxHeartbeats 1000000 in
theorem putO_any (v : Value) (l : List Int) (key n least lo : Int) (B : Nat) (w : World) (ho : OwnI w B v l) (hB : B ≤ w.heap.size) (hi : ∀ x ∈ l, I64 x) (hp : Pairs least lo l) (hlim : l.length ≤ 1000000) :
    Calls Tryz.prog 118 #[v, .int .i64 key, .int .i64 n] w fun e w' => ∃ v', e = .returned v' ∧ OwnI w' B v' (withF key n false l) ∧ Mv w w' v v' := by
  have HPL : Hid (Calls Tryz.prog 125 #[v, .int .i64 key] w fun e w' => e = .returned (.tuple #[.int .i64 (placeP key l), .bool (hitP key l)]) ∧ Below w.heap.size w w') := placeH_any v l key least lo w (ho.rd hi) hp hlim
  have hle := (placeP_le key l (pairs_even hp)).1
  have HH := hide' (placeP_hit key least l lo hp).2
  have HO := hide' ho
  cases hh : hitP key l
  · rw [hh] at HPL
    have HW := hide' (withF_insert key n least l lo hp hh)
    have HI : Hid (∀ W, OwnI W B v l → B ≤ W.heap.size → Calls Tryz.prog 126 #[v, .int .i64 (placeP key l), .slice (some ⟨W.heap.size, 0, none⟩) 2 2] (W.alloc (.cells #[.int .i64 key, .int .i64 n] 3)) fun e w' => ∃ v', e = .returned v' ∧ OwnI w' B v' (l.take (placeP key l) ++ ([key, n] ++ l.drop (placeP key l))) ∧ Mv W w' v v') :=
      fun W h1 h2 => insertI_any v l B W h1 h2 hlim (placeP key l) hle _ rfl key n _ rfl
    obtain ⟨L', hL'⟩ : ∃ L', L' = withF key n false l := ⟨_, rfl⟩
    rw [← hL']
    rw [← hL'] at HW
    have HWS := hide' HW.out.symm
    rw [HWS.out] at HI
    clear hL' HW HWS ho hp HH hh hle
    generalize placeP key l = P at *
    go_enter Tryz.func118, Tryz.ntmps118
    go_wp2_with fail
    refine HPL.out.mono ?_
    rintro e W1 ⟨rfl, hb1⟩
    have HB1 := hide' hb1
    clear hb1
    go_wp2_with fail
    refine (HI.out W1 (HO.out.below HB1.out (Nat.le_refl _)) (Nat.le_trans hB HB1.out.size)).mono ?_
    rintro e W2 ⟨v2, rfl, ho2, hb2⟩
    have HB2 := hide' ((Mv.ofBelow HB1.out v).trans hb2)
    have HO2 := hide' ho2
    clear hb2 ho2
    go_wp2
    go_ret
    exact ⟨_, rfl, HO2.out, HB2.out⟩
  · rw [hh] at HPL
    have HW := hide' (withF_set key n least l lo hp hh)
    obtain ⟨h1, h2⟩ := HH.out hh
    obtain ⟨L', hL'⟩ : ∃ L', L' = withF key n false l := ⟨_, rfl⟩
    rw [← hL']
    rw [← hL'] at HW
    have hsh := ho.put _ h2 n
    obtain ⟨g, cap, rfl, -, -, hBg, hgl, -, -⟩ := hsh
    have HS : Hid (∀ W, Below w.heap.size w W → W.cell? ⟨g, placeP key l + 1, none⟩ = some (.int .i64 (l.getD (placeP key l + 1) 0)) ∧ W.frozen? ⟨g, placeP key l + 1, none⟩ = false ∧ OwnI (W.setCell ⟨g, placeP key l + 1, none⟩ (.int .i64 n)) B (.slice (some ⟨g, 0, none⟩) l.length cap) L' ∧ Mv w (W.setCell ⟨g, placeP key l + 1, none⟩ (.int .i64 n)) (.slice (some ⟨g, 0, none⟩) l.length cap) (.slice (some ⟨g, 0, none⟩) l.length cap)) := fun W hb => by
      obtain ⟨g', cap', hv, h3, h4, h5, h6, h7, h8⟩ := (HO.out.below hb (Nat.le_refl _)).put _ h2 n
      simp only [Value.slice.injEq, Option.some.injEq, Addr.mk.injEq] at hv
      obtain ⟨⟨rfl, _⟩, _, rfl⟩ := hv
      exact ⟨h3, h4, by rw [HW.out]; exact h7, (Mv.ofBelow hb _).trans h8⟩
    clear hL' HW ho hp HH hh hle h1 HO hi
    generalize l.getD (placeP key l + 1) 0 = y at *
    generalize placeP key l = P at *
    have hPl : (P : Int) + 1 < (l.length : Int) := by omega
    clear h2
    go_enter Tryz.func118, Tryz.ntmps118
    go_wp2_with fail
    refine HPL.out.mono ?_
    rintro e W1 ⟨rfl, hb1⟩
    obtain ⟨c1, f1, o1, b1⟩ := HS.out _ hb1
    have HO1 := hide' o1
    have HB1 := hide' b1
    clear hb1 o1 b1
    go_wp2
    go_ret
    exact ⟨_, rfl, HO1.out, HB1.out⟩

set_option maxRecDepth 100000 in
set_option maxHeartbeats 1000000 in
theorem drop_any (v : Value) (l : List Int) (key least lo : Int) (B : Nat) (w : World) (ho : OwnI w B v l) (hi : ∀ x ∈ l, I64 x) (hp : Pairs least lo l) (hlim : l.length ≤ 1000000) :
    Calls Tryz.prog 116 #[v, .int .i64 key] w fun e w' => ∃ v', e = .returned v' ∧ OwnI w' B v' (withoutF key l) ∧ Mv w w' v v' := by
  have HPL : Hid (Calls Tryz.prog 125 #[v, .int .i64 key] w fun e w' => e = .returned (.tuple #[.int .i64 (placeP key l), .bool (hitP key l)]) ∧ Below w.heap.size w w') := placeH_any v l key least lo w (ho.rd hi) hp hlim
  have hle := (placeP_le key l (pairs_even hp)).1
  have HH := hide' (placeP_hit key least l lo hp).2
  have HO := hide' ho
  cases hh : hitP key l
  · rw [hh] at HPL
    have HW := hide' (withoutF_not key least l lo hp hh)
    rw [HW.out]
    clear HW ho hp HH hh hle hi
    generalize placeP key l = P at *
    go_enter Tryz.func116, Tryz.ntmps116
    go_wp2_with fail
    refine HPL.out.mono ?_
    rintro e W1 ⟨rfl, hb1⟩
    have HB1 := hide' hb1
    clear hb1
    go_wp2
    go_ret
    exact ⟨_, rfl, HO.out.below HB1.out (Nat.le_refl _), Mv.ofBelow HB1.out v⟩
  · rw [hh] at HPL
    have HW := hide' (withoutF_cut key least l lo hp hh)
    obtain ⟨h1, h2⟩ := HH.out hh
    have HD : Hid (∀ W J, OwnI W B v l → J = ((placeP key l + 2 : Nat) : Int) → Calls Tryz.prog 124 #[v, .int .i64 (placeP key l), .int .i64 J] W fun e w' => ∃ v', e = .returned v' ∧ OwnI w' B v' (l.take (placeP key l) ++ l.drop (placeP key l + 2)) ∧ Mv W w' v v') :=
      fun W J h3 h4 => deleteI_any v l B W h3 (placeP key l) (placeP key l + 2) (by omega) (by omega) _ _ rfl h4
    obtain ⟨L', hL'⟩ : ∃ L', L' = withoutF key l := ⟨_, rfl⟩
    rw [← hL']
    rw [← hL'] at HW
    have HWS := hide' HW.out.symm
    rw [HWS.out] at HD
    clear hL' HW HWS ho hp HH hh hle h1
    generalize placeP key l = P at *
    have hPl : (P : Int) + 1 < (l.length : Int) := by omega
    clear h2
    go_enter Tryz.func116, Tryz.ntmps116
    go_wp2_with fail
    refine HPL.out.mono ?_
    rintro e W1 ⟨rfl, hb1⟩
    have HB1 := hide' hb1
    clear hb1
    go_wp2_with fail
    refine (HD.out W1 _ (HO.out.below HB1.out (Nat.le_refl _)) (by omega)).mono ?_
    rintro e W2 ⟨v2, rfl, ho2, hb2⟩
    have HB2 := hide' ((Mv.ofBelow HB1.out v).trans hb2)
    have HO2 := hide' ho2
    clear hb2 ho2
    go_wp2
    go_ret
    exact ⟨_, rfl, HO2.out, HB2.out⟩

end Go.Proofs.YtanmjihiceibbaaGreat

/- Contracts of objs: counter, register, pop, line. -/
namespace Go.Proofs.YtanmjihiceibbaaGreat
open Go.RowKit

/-- What a call answers that changes numbers of one's own in their place. -/
def Acted (B : Nat) (w : World) (v : Value) (L : List Int) (n : Int) (e : Ending) (w' : World) : Prop :=
  ∃ v', e = .returned (.tuple #[v', .int .i64 n]) ∧ OwnI w' B v' L ∧ Mv w w' v v'

theorem OwnI.alloc {w : World} {B : Nat} {v : Value} {l : List Int} (h : OwnI w B v l) (X : Obj) : OwnI (w.alloc X) B v l := World.ownsRow.alloc h X

/-- The one number of a row of one's own. -/
theorem OwnI.single {w : World} {B : Nat} {v : Value} {l : List Int} (h : OwnI w B v l) (hl : l.length = 1) :
    ∃ g cap, v = .slice (some ⟨g, 0, none⟩) 1 cap ∧ (∀ X, (w.alloc X).cell? ⟨g, 0, none⟩ = some (.int .i64 (l.getD 0 0)) ∧ (w.alloc X).frozen? ⟨g, 0, none⟩ = false) ∧ g < w.heap.size ∧
      ∀ X n, OwnI ((w.setCell ⟨g, 0, none⟩ (.int .i64 n)).alloc X) B v [n] ∧ Mv w ((w.setCell ⟨g, 0, none⟩ (.int .i64 n)).alloc X) v v := by
  obtain ⟨g, cap, rfl, -, -, hBg, hg, -, -⟩ := h.put 0 (by omega) 0
  refine ⟨g, cap, by rw [hl], fun X => ?_, hg, fun X n => ?_⟩
  · obtain ⟨g', cap', hv, h3, h4, _⟩ := (h.alloc X).put 0 (by omega) 0
    simp only [Value.slice.injEq, Option.some.injEq, Addr.mk.injEq] at hv
    obtain ⟨⟨rfl, _⟩, _, rfl⟩ := hv
    exact ⟨h3, h4⟩
  · obtain ⟨g', cap', hv, h3, h4, _, _, h7, h8⟩ := h.put 0 (by omega) n
    simp only [Value.slice.injEq, Option.some.injEq, Addr.mk.injEq] at hv
    obtain ⟨⟨rfl, _⟩, _, rfl⟩ := hv
    have e : l.set 0 n = [n] := by
      match l, hl with
      | [_], _ => rfl
    rw [e] at h7
    exact ⟨h7.alloc X, h8.trans (Mv.alloc _ _ X)⟩

set_option maxRecDepth 100000 in
set_option maxHeartbeats 1000000 in
theorem counter_any (v : Value) (l : List Int) (o : Opn) (shut : Bool) (g : Int) (B : Nat) (w : World) (ho : OwnI w B v l) (hl : l.length = 1) (hb0 : -1099511627776 ≤ l.getD 0 0) (hb1 : l.getD 0 0 ≤ 1099511627776) :
    Calls Tryz.prog 94 #[v, opV o] w fun e w' => e = .returned (.int .i64 (oneS ⟨0, l, shut, g⟩ o).2) ∧ OwnI w' B v (oneS ⟨0, l, shut, g⟩ o).1.L ∧ Mv w w' v v := by
  obtain ⟨code, a, b⟩ := o
  have HO := hide' ho
  have HBA : Hid (∀ X, Mv w (w.alloc X) v v) := fun X => Mv.alloc w v X
  have HC := hide' (fun n w => cutO_any n w)
  obtain ⟨c, cap, rfl, hcell, hlt, hput⟩ := ho.single hl
  have HPT := hide' hput
  have hc := fun X => (hcell X).1
  have hf := fun X => (hcell X).2
  clear hput ho hcell
  obtain ⟨n, hn⟩ : ∃ n, n = l.getD 0 0 := ⟨_, rfl⟩
  rw [← hn] at hb0 hb1
  simp only [← hn] at hc
  have HN := hide' hn
  have hca := cutZ_in a
  clear hn hl
  show Calls Tryz.prog _ #[_, .agg #[.int .i64 code, .int .i64 a, .int .i64 b]] w _
  by_cases c1 : code = 1
  · subst c1
    have HE : Hid (oneS ⟨0, l, shut, g⟩ ⟨1, a, b⟩ = (⟨0, [cutZ (n + cutZ a)], shut, g⟩, n)) := by rw [HN.out]; exact if_pos ⟨rfl, rfl⟩
    rw [HE.out]
    go_enter Tryz.func94, Tryz.ntmps94
    go_wp2_with (first | (go_at_call 113; refine (HC.out _ _).mono ?_; rintro e w2 ⟨rfl, rfl⟩))
    go_ret
    exact ⟨rfl, HPT.out _ _⟩
  · have e1 : (code == 1) = false := beq_eq_false_iff_ne.2 c1
    by_cases c7 : code = 7
    · have e7 : (code == 7) = true := beq_iff_eq.2 c7
      have HE : Hid (oneS ⟨0, l, shut, g⟩ ⟨code, a, b⟩ = (⟨0, l, shut, g⟩, n)) := by
        rw [HN.out]
        unfold oneS
        rw [if_neg (by simp; omega), if_neg (by simp), if_pos c7]
        exact rfl
      rw [HE.out]
      clear c1 c7
      go_enter Tryz.func94, Tryz.ntmps94
      go_wp2
      go_ret
      exact ⟨rfl, HO.out.alloc _, HBA.out _⟩
    · have e7 : (code == 7) = false := beq_eq_false_iff_ne.2 c7
      have HE : Hid (oneS ⟨0, l, shut, g⟩ ⟨code, a, b⟩ = (⟨0, l, shut, g⟩, 0)) := by
        unfold oneS
        rw [if_neg (by simp; omega), if_neg (by simp), if_neg c7]
        exact rfl
      rw [HE.out]
      clear c1 c7
      go_enter Tryz.func94, Tryz.ntmps94
      go_wp2
      go_ret
      exact ⟨rfl, HO.out.alloc _, HBA.out _⟩

set_option maxRecDepth 100000 in
set_option maxHeartbeats 1000000 in
theorem register_any (v : Value) (l : List Int) (o : Opn) (shut : Bool) (g : Int) (B : Nat) (w : World) (ho : OwnI w B v l) (hl : l.length = 1) :
    Calls Tryz.prog 95 #[v, opV o] w fun e w' => e = .returned (.int .i64 (oneS ⟨1, l, shut, g⟩ o).2) ∧ OwnI w' B v (oneS ⟨1, l, shut, g⟩ o).1.L ∧ Mv w w' v v := by
  obtain ⟨code, a, b⟩ := o
  have HO := hide' ho
  have HBA : Hid (∀ X, Mv w (w.alloc X) v v) := fun X => Mv.alloc w v X
  have HC := hide' (fun n w => cutO_any n w)
  obtain ⟨c, cap, rfl, hcell, hlt, hput⟩ := ho.single hl
  have HPT := hide' hput
  have hc := fun X => (hcell X).1
  have hf := fun X => (hcell X).2
  clear hput ho hcell
  obtain ⟨n, hn⟩ : ∃ n, n = l.getD 0 0 := ⟨_, rfl⟩
  simp only [← hn] at hc
  have HN := hide' hn
  clear hn hl
  show Calls Tryz.prog _ #[_, .agg #[.int .i64 code, .int .i64 a, .int .i64 b]] w _
  by_cases c1 : code = 2
  · subst c1
    have HE : Hid (oneS ⟨1, l, shut, g⟩ ⟨2, a, b⟩ = (⟨1, [cutZ a], shut, g⟩, n)) := by rw [HN.out]; exact rfl
    rw [HE.out]
    go_enter Tryz.func95, Tryz.ntmps95
    go_wp2_with (first | (go_at_call 113; refine (HC.out _ _).mono ?_; rintro e w2 ⟨rfl, rfl⟩))
    go_ret
    exact ⟨rfl, HPT.out _ _⟩
  · have e1 : (code == 2) = false := beq_eq_false_iff_ne.2 c1
    by_cases c7 : code = 7
    · have e7 : (code == 7) = true := beq_iff_eq.2 c7
      have HE : Hid (oneS ⟨1, l, shut, g⟩ ⟨code, a, b⟩ = (⟨1, l, shut, g⟩, n)) := by
        rw [HN.out]
        unfold oneS
        rw [if_neg (by simp), if_neg (by simp; omega), if_pos c7]
        exact rfl
      rw [HE.out]
      clear c1 c7
      go_enter Tryz.func95, Tryz.ntmps95
      go_wp2
      go_ret
      exact ⟨rfl, HO.out.alloc _, HBA.out _⟩
    · have e7 : (code == 7) = false := beq_eq_false_iff_ne.2 c7
      have HE : Hid (oneS ⟨1, l, shut, g⟩ ⟨code, a, b⟩ = (⟨1, l, shut, g⟩, 0)) := by
        unfold oneS
        rw [if_neg (by simp), if_neg (by simp; omega), if_neg c7]
        exact rfl
      rw [HE.out]
      clear c1 c7
      go_enter Tryz.func95, Tryz.ntmps95
      go_wp2
      go_ret
      exact ⟨rfl, HO.out.alloc _, HBA.out _⟩

set_option maxRecDepth 100000 in
set_option maxHeartbeats 1000000 in
theorem pop_any (kind : Int) (hk : kind = 2 ∨ kind = 3) (v : Value) (l : List Int) (shut : Bool) (g a b : Int) (B : Nat) (w : World) (ho : OwnI w B v l) (hi : ∀ x ∈ l, I64 x) (h64 : l.length ≤ 64) :
    Calls Tryz.prog 114 #[.int .i64 kind, v] w fun e w' => Acted B w v (listS ⟨kind, l, shut, g⟩ ⟨4, a, b⟩).1.L (listS ⟨kind, l, shut, g⟩ ⟨4, a, b⟩).2 e w' := by
  have HO := hide' ho
  have hsh := ho.shape
  by_cases h0 : l.length = 0
  · have HE : Hid (listS ⟨kind, l, shut, g⟩ ⟨4, a, b⟩ = (⟨kind, l, shut, g⟩, -1)) := by
      unfold listS
      rw [if_neg (by simp), if_pos rfl, if_pos h0]
      exact rfl
    rw [HE.out]
    obtain ⟨ao, cap, rfl⟩ := hsh
    rw [h0]
    have HO0 : Hid (OwnI w B (.slice ao 0 cap) l) := by
      have h := HO.out
      rwa [h0] at h
    clear HO ho h0 HE hi h64
    go_enter Tryz.func114, Tryz.ntmps114
    go_wp2
    go_ret2
    exact ⟨_, rfl, HO0.out, Mv.refl _ _⟩
  · have hne : ((l.length : Int) == 0) = false := beq_eq_false_iff_ne.2 (by omega)
    have hne' : l ≠ [] := fun h => h0 (by rw [h]; rfl)
    have hrd := ho.rd hi
    obtain ⟨ao, cap, rfl⟩ := hsh
    have HD : Hid (∀ i : Nat, i < l.length → ∀ I J, I = (i : Int) → J = ((i + 1 : Nat) : Int) → Calls Tryz.prog 124 #[.slice ao l.length cap, .int .i64 I, .int .i64 J] w fun e w' => ∃ v', e = .returned v' ∧ OwnI w' B v' (l.take i ++ l.drop (i + 1)) ∧ Mv w w' (.slice ao l.length cap) v') :=
      fun i hi I J h1 h2 => deleteI_any _ l B w HO.out i (i + 1) (by omega) (by omega) I J h1 h2
    obtain ⟨ao', cap', hv, -, -, -, -, hao⟩ := hrd
    simp only [Value.slice.injEq] at hv
    obtain ⟨rfl, -, rfl⟩ := hv
    rcases hao with hx | ⟨c, off, rfl, hc⟩
    · exact absurd hx hne'
    rcases hk with rfl | rfl
    · have HE : Hid (listS ⟨2, l, shut, g⟩ ⟨4, a, b⟩ = (⟨2, l.take 0 ++ l.drop (0 + 1), shut, g⟩, l.getD 0 0)) := by
        unfold listS
        rw [if_neg (by simp), if_pos rfl, if_neg h0, if_pos rfl]
        exact rfl
      rw [HE.out]
      have hc0 := hc 0 (by omega)
      rw [Nat.add_zero] at hc0
      have HDD := hide' (HD.out 0 (by omega))
      have hbk : (0 : Int) < (l.length : Int) := by omega
      generalize l.getD 0 0 = y at *
      generalize l.take 0 ++ l.drop (0 + 1) = L' at *
      clear hc HD HE h0 hne' ho hi HO
      go_enter Tryz.func114, Tryz.ntmps114
      go_wp2_with fail
      refine (HDD.out _ _ (by simp) (by simp)).mono ?_
      rintro e W1 ⟨v1, rfl, ho1, hb1⟩
      have HO1 := hide' ho1
      have HB1 := hide' hb1
      clear ho1 hb1
      go_wp2
      go_ret2
      exact ⟨_, rfl, HO1.out, HB1.out⟩
    · have HE : Hid (listS ⟨3, l, shut, g⟩ ⟨4, a, b⟩ = (⟨3, l.take (l.length - 1) ++ l.drop (l.length - 1 + 1), shut, g⟩, l.getD (l.length - 1) 0)) := by
        unfold listS
        rw [if_neg (by simp), if_pos rfl, if_neg h0, if_neg (by simp)]
        have e : l.drop (l.length - 1 + 1) = [] := List.drop_of_length_le (by omega)
        rw [e, List.append_nil]
        exact rfl
      rw [HE.out]
      have hc0 := hc (l.length - 1) (by omega)
      have HDD := hide' (HD.out (l.length - 1) (by omega))
      obtain ⟨M, hM⟩ : ∃ M, M = l.length - 1 := ⟨_, rfl⟩
      rw [← hM] at hc0 HDD ⊢
      have hlen : l.length = M + 1 := by omega
      generalize l.getD M 0 = y at *
      generalize l.take M ++ l.drop (M + 1) = L' at *
      clear hc HD HE h0 hne' ho hi HO hM hne
      rw [hlen] at HDD ⊢
      have hM64 : (M : Int) < 64 := by omega
      clear hlen h64
      go_enter Tryz.func114, Tryz.ntmps114
      go_wp2_with fail
      refine (HDD.out _ _ (by simp) (by simp)).mono ?_
      rintro e W1 ⟨v1, rfl, ho1, hb1⟩
      have HO1 := hide' ho1
      have HB1 := hide' hb1
      clear ho1 hb1
      go_wp2
      go_ret2
      exact ⟨_, rfl, HO1.out, HB1.out⟩

end Go.Proofs.YtanmjihiceibbaaGreat

/- Contracts of objs: line. -/
namespace Go.Proofs.YtanmjihiceibbaaGreat
open Go.RowKit

theorem ret_vi {v : Value} {a b : Int} (h : a = b) : Ending.returned (.tuple #[v, .int .i64 a]) = .returned (.tuple #[v, .int .i64 b]) := by rw [h]

set_option maxRecDepth 100000 in
set_option maxHeartbeats 1000000 in
theorem line_any (kind : Int) (hk : kind = 2 ∨ kind = 3) (v : Value) (l : List Int) (o : Opn) (shut : Bool) (g : Int) (B : Nat) (w : World) (ho : OwnI w B v l) (hB : B ≤ w.heap.size) (hi : ∀ x ∈ l, I64 x) (h64 : l.length ≤ 64) :
    Calls Tryz.prog 96 #[.int .i64 kind, v, opV o] w fun e w' => Acted B w v (listS ⟨kind, l, shut, g⟩ o).1.L (listS ⟨kind, l, shut, g⟩ o).2 e w' := by
  obtain ⟨code, a, b⟩ := o
  have HO := hide' ho
  have HBA : Hid (∀ X, Mv w (w.alloc X) v v) := fun X => Mv.alloc w v X
  have HC := hide' (fun n w => cutO_any n w)
  show Calls Tryz.prog _ #[_, _, .agg #[.int .i64 code, .int .i64 a, .int .i64 b]] w _
  by_cases c3 : code = 3
  · subst c3
    obtain ⟨ao, cap, rfl⟩ := ho.shape
    by_cases hf : l.length = 64
    · have HE : Hid (listS ⟨kind, l, shut, g⟩ ⟨3, a, b⟩ = (⟨kind, l, shut, g⟩, -1)) := by
        unfold listS
        rw [if_pos rfl, if_pos hf]
        exact rfl
      rw [HE.out]
      have hq : ((l.length : Int) == 64) = true := beq_iff_eq.2 (by omega)
      clear hf HE ho hi h64 hk
      go_enter Tryz.func96, Tryz.ntmps96
      go_wp2
      go_ret2
      exact ⟨_, rfl, HO.out.alloc _, HBA.out _⟩
    · have HE : Hid (listS ⟨kind, l, shut, g⟩ ⟨3, a, b⟩ = (⟨kind, l ++ [cutZ a], shut, g⟩, (l.length : Int) + 1)) := by
        unfold listS
        rw [if_pos rfl, if_neg hf]
        exact rfl
      rw [HE.out]
      have hq : ((l.length : Int) == 64) = false := beq_eq_false_iff_ne.2 (by omega)
      obtain ⟨L', hL'⟩ : ∃ L', L' = l ++ [cutZ a] := ⟨_, rfl⟩
      rw [← hL']
      have HLL := hide' hL'
      have HL : Hid ((L'.length : Int) = (l.length : Int) + 1) := by rw [hL', List.length_append]; exact rfl
      clear hf HE ho hi hk hL'
      go_enter Tryz.func96, Tryz.ntmps96
      go_wp2_with (first | (go_at_call 113; refine (HC.out _ _).mono ?_; rintro e w2 ⟨rfl, rfl⟩) | (at_builtin; refine wpList_append_intg _ rfl _ _ rfl B _ l rfl (HO.out.alloc _) _ _ rfl (by simp [Act.eval]) (by omega) (by simp; omega) ?_))
      intro v1 W1 ho1 hg1 ha1
      have hb1 := Mv.app hg1 (by simp) ha1
      clear hg1 ha1
      rw [← HLL.out] at ho1
      have HO1 := hide' ho1
      obtain ⟨ao1, cap1, rfl⟩ := ho1.shape
      have HB1 := hide' ((HBA.out _).trans hb1)
      clear ho1 hb1
      go_wp2
      go_ret2
      exact ⟨_, ret_vi HL.out, HO1.out, HB1.out⟩
  · have e3 : (code == 3) = false := beq_eq_false_iff_ne.2 c3
    by_cases c4 : code = 4
    · subst c4
      have HP : Hid (∀ X, Calls Tryz.prog 114 #[.int .i64 kind, v] (w.alloc X) fun e w' => Acted B (w.alloc X) v (listS ⟨kind, l, shut, g⟩ ⟨4, a, b⟩).1.L (listS ⟨kind, l, shut, g⟩ ⟨4, a, b⟩).2 e w') := fun X => pop_any kind hk v l shut g a b B (w.alloc X) (HO.out.alloc X) hi h64
      generalize (listS ⟨kind, l, shut, g⟩ ⟨4, a, b⟩).1.L = L' at *
      generalize (listS ⟨kind, l, shut, g⟩ ⟨4, a, b⟩).2 = n at *
      clear ho hi h64 hk c3 e3
      go_enter Tryz.func96, Tryz.ntmps96
      go_wp2_with fail
      refine (HP.out _).mono ?_
      rintro e W1 ⟨v1, rfl, ho1, hb1⟩
      have HO1 := hide' ho1
      have HB1 := hide' ((HBA.out _).trans hb1)
      clear ho1 hb1
      go_wp2
      go_ret2
      exact ⟨_, rfl, HO1.out, HB1.out⟩
    · have e4 : (code == 4) = false := beq_eq_false_iff_ne.2 c4
      obtain ⟨ao, cap, rfl⟩ := ho.shape
      by_cases c7 : code = 7
      · have e7 : (code == 7) = true := beq_iff_eq.2 c7
        have HE : Hid (listS ⟨kind, l, shut, g⟩ ⟨code, a, b⟩ = (⟨kind, l, shut, g⟩, (l.length : Int))) := by
          unfold listS
          rw [if_neg c3, if_neg c4, if_pos c7]
          exact rfl
        rw [HE.out]
        clear ho hi h64 hk c3 c4 c7 HE
        go_enter Tryz.func96, Tryz.ntmps96
        go_wp2
        go_ret2
        exact ⟨_, rfl, HO.out.alloc _, HBA.out _⟩
      · have e7 : (code == 7) = false := beq_eq_false_iff_ne.2 c7
        have HE : Hid (listS ⟨kind, l, shut, g⟩ ⟨code, a, b⟩ = (⟨kind, l, shut, g⟩, 0)) := by
          unfold listS
          rw [if_neg c3, if_neg c4, if_neg c7]
          exact rfl
        rw [HE.out]
        clear ho hi h64 hk c3 c4 c7 HE
        go_enter Tryz.func96, Tryz.ntmps96
        go_wp2
        go_ret2
        exact ⟨_, rfl, HO.out.alloc _, HBA.out _⟩

theorem OwnI.drew {w : World} {B : Nat} {v : Value} {l : List Int} (h : OwnI w B v l) : OwnI w.drew B v l := h

theorem hit_find (key : Int) (l : List Int) : findF key 0 l < 0 ↔ hitP key l = false := by
  rw [find_none]
  unfold hitP
  cases getP key l <;> simp

theorem had_hit {key : Int} {l : List Int} (h : hitP key l = true) : hadF key l = (getP key l).getD 0 := by
  rw [had_get]
  unfold hitP at h
  cases hg : getP key l with
  | none => rw [hg] at h; simp at h
  | some x => rfl

theorem had_miss {key : Int} {l : List Int} (h : hitP key l = false) : hadF key l = -1 := by
  rw [had_get]
  unfold hitP at h
  cases hg : getP key l with
  | none => rfl
  | some x => rw [hg] at h; simp at h

end Go.Proofs.YtanmjihiceibbaaGreat

/- Contracts of objs: store. -/
namespace Go.Proofs.YtanmjihiceibbaaGreat
open Go.RowKit

set_option maxRecDepth 100000 in
set_option maxHeartbeats 1000000 in
theorem storeO_any (v : Value) (l : List Int) (o : Opn) (shut : Bool) (g : Int) (B : Nat) (w : World) (ho : OwnI w B v l) (hB : B ≤ w.heap.size) (hp : Pairs (-1099511627776) (-1) l) (hlim : l.length ≤ 128) :
    Calls Tryz.prog 97 #[v, opV o] w fun e w' => Acted B w v (storeO ⟨4, l, shut, g⟩ o).1.L (storeO ⟨4, l, shut, g⟩ o).2 e w' := by
  obtain ⟨code, a, b⟩ := o
  have hi := pairs_i64 (by decide) (by decide) hp
  have HO := hide' ho
  have HBA : Hid (∀ X, Mv w (w.alloc X) v v) := fun X => Mv.alloc w v X
  have HC := hide' (fun n w => cutO_any n w)
  have HW := hide' (fun p q W => within_any p q W)
  have HS := hide' (fun n l2 h2 a2 b2 W p1 p2 => is_any n l2 h2 a2 b2 W p1 p2)
  have HLK : Hid (∀ W, OwnI W B v l → Calls Tryz.prog 115 #[v, .int .i64 a] W fun e w' => e = .returned (.tuple #[.int .i64 ((getP a l).getD 0), .bool (hitP a l)]) ∧ Below W.heap.size W w') := fun W h => look_any v l a _ _ W (h.rd hi) hp (by omega)
  have HPT : Hid (∀ n W, OwnI W B v l → B ≤ W.heap.size → Calls Tryz.prog 118 #[v, .int .i64 a, .int .i64 n] W fun e w' => ∃ v', e = .returned v' ∧ OwnI w' B v' (withF a n false l) ∧ Mv W w' v v') := fun n W h1 h2 => putO_any v l a n _ _ B W h1 h2 hi hp (by omega)
  have HDR : Hid (∀ W, OwnI W B v l → B ≤ W.heap.size → Calls Tryz.prog 116 #[v, .int .i64 a] W fun e w' => ∃ v', e = .returned v' ∧ OwnI w' B v' (withoutF a l) ∧ Mv W w' v v') := fun W h1 _ => drop_any v l a _ _ B W h1 hi hp (by omega)
  obtain ⟨ao, cap, rfl⟩ := ho.shape
  have HFU : Hid (∀ W, Calls Tryz.prog 117 #[.slice ao l.length cap] W fun e w' => e = .returned (.bool (decide (l.length = 128))) ∧ w' = W) := fun W => full_any ao l.length cap W
  obtain ⟨L', n', hE⟩ : ∃ L' n', storeO ⟨4, l, shut, g⟩ ⟨code, a, b⟩ = (⟨4, L', shut, g⟩, n') := by
    unfold storeO
    repeat' split
    all_goals exact ⟨_, _, rfl⟩
  rw [hE]
  have HE := hide' hE
  clear hE ho hp hi
  show Calls Tryz.prog _ #[_, .agg #[.int .i64 code, .int .i64 a, .int .i64 b]] w fun e w' => Acted B w (.slice ao l.length cap) L' n' e w'
  by_cases hk : 0 ≤ a ∧ a ≤ 255
  · have HN := hide' (decide_eq_true hk)
    have HK : Hid (¬ (a < 0 ∨ 255 < a)) := by
      show ¬ (a < 0 ∨ 255 < a)
      omega
    clear hk
    cases hh : hitP a l
    · have HHF := hide' ((hit_find a l).2 hh)
      have HHD := hide' (had_miss hh)
      rw [hh] at HLK
      clear hh
      generalize (getP a l).getD 0 = y at *
      go_enter Tryz.func97, Tryz.ntmps97
      go_wp2_with fail
      refine (HW.out _ _ _).mono ?_
      rintro e W1 ⟨a1, b1, rfl, hc1, hc2, hb1⟩
      have hbx := (hb1.block w.heap.size (by simp)).trans (heap_alloc_new w _)
      have p1 := cell_of_row W1 w.heap.size 1 _ _ _ hbx
      have HX1 := hide' hbx
      have HB1 := hide' ((HBA.out _).trans (Mv.ofBelow hb1 _))
      have HO1 := hide' ((HO.out.alloc _).below hb1 (Nat.le_refl _))
      clear hb1 hbx
      go_wp2_with fail
      refine (HS.out _ _ _ _ _ _ hc1 hc2).mono ?_
      rintro e W2 ⟨rfl, rfl⟩
      rw [HN.out]
      clear hc1 hc2
      go_wp2_with fail
      refine (HLK.out _ HO1.out).mono ?_
      rintro e W2 ⟨rfl, hb2⟩
      have hbx := (hb2.block w.heap.size (Array.getElem?_eq_some_iff.1 HX1.out).1).trans HX1.out
      have p0 := cell_of_row W2 w.heap.size 0 _ _ _ hbx
      have q1 := cell_of_row W2 w.heap.size 1 _ _ _ hbx
      have q2 := cell_of_row W2 w.heap.size 2 _ _ _ hbx
      have HB2 := hide' (HB1.out.trans (Mv.ofBelow hb2 _))
      have HO2 := hide' (HO1.out.below hb2 (Nat.le_refl _))
      have hB2 : B ≤ W2.heap.size := Nat.le_trans hB HB2.out.size
      clear hb2 hbx HX1 HB1 HO1 p1
      by_cases c7 : code = 7
      · have HR : Hid (L' = l ∧ n' = -1) := by
          have h := HE.out
          unfold storeO at h
          rw [if_neg HK.out, if_neg (show ¬ (code ≠ 7 ∧ code ≠ 6 ∧ code ≠ 5) by omega), if_neg (show ¬ code = 6 by omega), if_neg (show ¬ code = 5 by omega), HHD.out] at h
          injection h with h1 h2
          injection h1 with _ h3
          exact ⟨h3.symm, h2.symm⟩
        have e7 : (code == 7) = true := beq_iff_eq.2 c7
        clear c7
        go_wp2
        go_ret2
        exact ⟨_, ret_vi HR.out.2.symm, by rw [HR.out.1]; exact HO2.out, HB2.out⟩
      · have e7 : (code == 7) = false := beq_eq_false_iff_ne.2 c7
        by_cases c6 : code = 6
        · have HR : Hid (L' = withoutF a l ∧ n' = -1) := by
            have h := HE.out
            unfold storeO at h
            rw [if_neg HK.out, if_neg (show ¬ (code ≠ 7 ∧ code ≠ 6 ∧ code ≠ 5) by omega), if_pos (show code = 6 by omega), HHD.out] at h
            injection h with h1 h2
            injection h1 with _ h3
            exact ⟨h3.symm, h2.symm⟩
          have e6 : (code == 6) = true := beq_iff_eq.2 c6
          clear c6 c7
          go_wp2_with fail
          refine (HDR.out _ HO2.out hB2).mono ?_
          rintro e W3 ⟨v3, rfl, ho3, hb3⟩
          have HB3 := hide' (HB2.out.trans hb3)
          have HO3 := hide' ho3
          clear ho3 hb3
          go_wp2
          go_ret2
          exact ⟨_, ret_vi HR.out.2.symm, by rw [HR.out.1]; exact HO3.out, HB3.out⟩
        · have e6 : (code == 6) = false := beq_eq_false_iff_ne.2 c6
          by_cases c5 : code = 5
          · have e5 : (code == 5) = true := beq_iff_eq.2 c5
            by_cases hf : l.length = 128
            · have HR : Hid (L' = l ∧ n' = -2) := by
                have h := HE.out
                unfold storeO at h
                rw [if_neg HK.out, if_neg (show ¬ (code ≠ 7 ∧ code ≠ 6 ∧ code ≠ 5) by omega), if_neg (show ¬ code = 6 by omega), if_pos c5, if_pos ⟨HHF.out, hf⟩] at h
                injection h with h1 h2
                injection h1 with _ h3
                exact ⟨h3.symm, h2.symm⟩
              have HFD := hide' (decide_eq_true hf)
              clear c5 c6 c7 hf
              go_wp2_with fail
              refine (HFU.out _).mono ?_
              rintro e W3 ⟨rfl, rfl⟩
              rw [HFD.out]
              go_wp2
              go_ret2
              exact ⟨_, ret_vi HR.out.2.symm, by rw [HR.out.1]; exact HO2.out, HB2.out⟩
            · have HR : Hid (L' = withF a (cutZ b) false l ∧ n' = -1) := by
                have h := HE.out
                unfold storeO at h
                rw [if_neg HK.out, if_neg (show ¬ (code ≠ 7 ∧ code ≠ 6 ∧ code ≠ 5) by omega), if_neg (show ¬ code = 6 by omega), if_pos c5, if_neg (fun h => hf h.2), HHD.out] at h
                injection h with h1 h2
                injection h1 with _ h3
                exact ⟨h3.symm, h2.symm⟩
              have HFD := hide' (decide_eq_false hf)
              clear hf
              clear c5 c6 c7
              go_wp2_with fail
              refine (HFU.out _).mono ?_
              rintro e W3 ⟨rfl, rfl⟩
              rw [HFD.out]
              go_wp2
              go_region_with
                (first
                  | (go_at_call 113; refine (HC.out _ _).mono ?_; rintro e w3 ⟨rfl, rfl⟩)
                  | (go_at_call 118; refine (HPT.out _ _ HO2.out.drew hB2).mono ?_; rintro e W3 ⟨v3, rfl, ho3, hb3⟩; have HB3 := hide' (HB2.out.drew.trans hb3); have HO3 := hide' ho3; clear ho3 hb3))
              all_goals
                go_wp2
                go_ret2
                exact ⟨_, ret_vi HR.out.2.symm, by rw [HR.out.1]; exact HO3.out, HB3.out⟩
              
          · have e5 : (code == 5) = false := beq_eq_false_iff_ne.2 c5
            have HR : Hid (L' = l ∧ n' = 0) := by
              have h := HE.out
              unfold storeO at h
              rw [if_neg HK.out, if_pos (show (code ≠ 7 ∧ code ≠ 6 ∧ code ≠ 5) by omega)] at h
              injection h with h1 h2
              injection h1 with _ h3
              exact ⟨h3.symm, h2.symm⟩
            clear c5 c6 c7
            go_wp2
            go_ret2
            exact ⟨_, ret_vi HR.out.2.symm, by rw [HR.out.1]; exact HO2.out, HB2.out⟩
    · have HHF : Hid (¬ findF a 0 l < 0) := fun h => by rw [(hit_find a l).1 h] at hh; cases hh
      have HHD := hide' (had_hit hh)
      rw [hh] at HLK
      clear hh
      generalize (getP a l).getD 0 = y at *
      go_enter Tryz.func97, Tryz.ntmps97
      go_wp2_with fail
      refine (HW.out _ _ _).mono ?_
      rintro e W1 ⟨a1, b1, rfl, hc1, hc2, hb1⟩
      have hbx := (hb1.block w.heap.size (by simp)).trans (heap_alloc_new w _)
      have p1 := cell_of_row W1 w.heap.size 1 _ _ _ hbx
      have HX1 := hide' hbx
      have HB1 := hide' ((HBA.out _).trans (Mv.ofBelow hb1 _))
      have HO1 := hide' ((HO.out.alloc _).below hb1 (Nat.le_refl _))
      clear hb1 hbx
      go_wp2_with fail
      refine (HS.out _ _ _ _ _ _ hc1 hc2).mono ?_
      rintro e W2 ⟨rfl, rfl⟩
      rw [HN.out]
      clear hc1 hc2
      go_wp2_with fail
      refine (HLK.out _ HO1.out).mono ?_
      rintro e W2 ⟨rfl, hb2⟩
      have hbx := (hb2.block w.heap.size (Array.getElem?_eq_some_iff.1 HX1.out).1).trans HX1.out
      have p0 := cell_of_row W2 w.heap.size 0 _ _ _ hbx
      have q1 := cell_of_row W2 w.heap.size 1 _ _ _ hbx
      have q2 := cell_of_row W2 w.heap.size 2 _ _ _ hbx
      have HB2 := hide' (HB1.out.trans (Mv.ofBelow hb2 _))
      have HO2 := hide' (HO1.out.below hb2 (Nat.le_refl _))
      have hB2 : B ≤ W2.heap.size := Nat.le_trans hB HB2.out.size
      clear hb2 hbx HX1 HB1 HO1 p1
      by_cases c7 : code = 7
      · have HR : Hid (L' = l ∧ n' = y) := by
          have h := HE.out
          unfold storeO at h
          rw [if_neg HK.out, if_neg (show ¬ (code ≠ 7 ∧ code ≠ 6 ∧ code ≠ 5) by omega), if_neg (show ¬ code = 6 by omega), if_neg (show ¬ code = 5 by omega), HHD.out] at h
          injection h with h1 h2
          injection h1 with _ h3
          exact ⟨h3.symm, h2.symm⟩
        have e7 : (code == 7) = true := beq_iff_eq.2 c7
        clear c7
        go_wp2
        go_ret2
        exact ⟨_, ret_vi HR.out.2.symm, by rw [HR.out.1]; exact HO2.out, HB2.out⟩
      · have e7 : (code == 7) = false := beq_eq_false_iff_ne.2 c7
        by_cases c6 : code = 6
        · have HR : Hid (L' = withoutF a l ∧ n' = y) := by
            have h := HE.out
            unfold storeO at h
            rw [if_neg HK.out, if_neg (show ¬ (code ≠ 7 ∧ code ≠ 6 ∧ code ≠ 5) by omega), if_pos (show code = 6 by omega), HHD.out] at h
            injection h with h1 h2
            injection h1 with _ h3
            exact ⟨h3.symm, h2.symm⟩
          have e6 : (code == 6) = true := beq_iff_eq.2 c6
          clear c6 c7
          go_wp2_with fail
          refine (HDR.out _ HO2.out hB2).mono ?_
          rintro e W3 ⟨v3, rfl, ho3, hb3⟩
          have HB3 := hide' (HB2.out.trans hb3)
          have HO3 := hide' ho3
          clear ho3 hb3
          go_wp2
          go_ret2
          exact ⟨_, ret_vi HR.out.2.symm, by rw [HR.out.1]; exact HO3.out, HB3.out⟩
        · have e6 : (code == 6) = false := beq_eq_false_iff_ne.2 c6
          by_cases c5 : code = 5
          · have e5 : (code == 5) = true := beq_iff_eq.2 c5
            have HR : Hid (L' = withF a (cutZ b) false l ∧ n' = y) := by
              have h := HE.out
              unfold storeO at h
              rw [if_neg HK.out, if_neg (show ¬ (code ≠ 7 ∧ code ≠ 6 ∧ code ≠ 5) by omega), if_neg (show ¬ code = 6 by omega), if_pos c5, if_neg (fun h => absurd (show findF a 0 l < 0 from h.1) (by have := HHF.out; omega)), HHD.out] at h
              injection h with h1 h2
              injection h1 with _ h3
              exact ⟨h3.symm, h2.symm⟩
            clear c5 c6 c7
            go_wp2
            go_region_with
              (first
                | (go_at_call 113; refine (HC.out _ _).mono ?_; rintro e w3 ⟨rfl, rfl⟩)
                | (go_at_call 118; refine (HPT.out _ _ HO2.out.drew hB2).mono ?_; rintro e W3 ⟨v3, rfl, ho3, hb3⟩; have HB3 := hide' (HB2.out.drew.trans hb3); have HO3 := hide' ho3; clear ho3 hb3))
            all_goals
              go_wp2
              go_ret2
              exact ⟨_, ret_vi HR.out.2.symm, by rw [HR.out.1]; exact HO3.out, HB3.out⟩
          · have e5 : (code == 5) = false := beq_eq_false_iff_ne.2 c5
            have HR : Hid (L' = l ∧ n' = 0) := by
              have h := HE.out
              unfold storeO at h
              rw [if_neg HK.out, if_pos (show (code ≠ 7 ∧ code ≠ 6 ∧ code ≠ 5) by omega)] at h
              injection h with h1 h2
              injection h1 with _ h3
              exact ⟨h3.symm, h2.symm⟩
            clear c5 c6 c7
            go_wp2
            go_ret2
            exact ⟨_, ret_vi HR.out.2.symm, by rw [HR.out.1]; exact HO2.out, HB2.out⟩
  · have HN := hide' (decide_eq_false hk)
    have HR : Hid (L' = l ∧ n' = -1) := by
      have h := HE.out
      unfold storeO at h
      rw [if_pos (show a < 0 ∨ 255 < a by omega)] at h
      injection h with h1 h2
      injection h1 with _ h3
      exact ⟨h3.symm, h2.symm⟩
    clear hk
    go_enter Tryz.func97, Tryz.ntmps97
    go_wp2_with fail
    refine (HW.out _ _ _).mono ?_
    rintro e W1 ⟨a1, b1, rfl, hc1, hc2, hb1⟩
    have hbx := (hb1.block w.heap.size (by simp)).trans (heap_alloc_new w _)
    have p1 := cell_of_row W1 w.heap.size 1 _ _ _ hbx
    have HX1 := hide' hbx
    have HB1 := hide' ((HBA.out _).trans (Mv.ofBelow hb1 _))
    have HO1 := hide' ((HO.out.alloc _).below hb1 (Nat.le_refl _))
    clear hb1 hbx
    go_wp2_with fail
    refine (HS.out _ _ _ _ _ _ hc1 hc2).mono ?_
    rintro e W2 ⟨rfl, rfl⟩
    rw [HN.out]
    clear hc1 hc2
    go_wp2
    go_ret2
    exact ⟨_, ret_vi HR.out.2.symm, by rw [HR.out.1]; exact HO1.out, HB1.out⟩

end Go.Proofs.YtanmjihiceibbaaGreat

/- Contracts of objs: deposit, move, ledger. -/
namespace Go.Proofs.YtanmjihiceibbaaGreat
open Go.RowKit

theorem has_hit (key : Int) (l : List Int) : hasF key l = (getP key l).getD 0 := has_get key l

set_option maxRecDepth 100000 in
set_option maxHeartbeats 1000000 in
theorem deposit_any (v : Value) (l : List Int) (a b : Int) (shut : Bool) (g : Int) (B : Nat) (w : World) (ho : OwnI w B v l) (hB : B ≤ w.heap.size) (hp : Pairs 0 (-1) l) (hlim : l.length ≤ 128) :
    Calls Tryz.prog 119 #[v, .int .i64 a, .int .i64 b] w fun e w' => Acted B w v (ledgerS ⟨5, l, shut, g⟩ ⟨8, a, b⟩).1.L (ledgerS ⟨5, l, shut, g⟩ ⟨8, a, b⟩).2 e w' := by
  have hi := pairs_i64 (by decide) (by decide) hp
  have HO := hide' ho
  have HC := hide' (fun n w => cutO_any n w)
  have HW := hide' (fun p q W => within_any p q W)
  have HS := hide' (fun n l2 h2 a2 b2 W p1 p2 => is_any n l2 h2 a2 b2 W p1 p2)
  have HLK : Hid (∀ W, OwnI W B v l → Calls Tryz.prog 115 #[v, .int .i64 a] W fun e w' => e = .returned (.tuple #[.int .i64 (hasF a l), .bool (hitP a l)]) ∧ Below W.heap.size W w') := fun W h => by
    rw [has_get]
    exact look_any v l a _ _ W (h.rd hi) hp (by omega)
  have HPT : Hid (∀ n W, OwnI W B v l → B ≤ W.heap.size → Calls Tryz.prog 118 #[v, .int .i64 a, .int .i64 n] W fun e w' => ∃ v', e = .returned v' ∧ OwnI w' B v' (withF a n false l) ∧ Mv W w' v v') := fun n W h1 h2 => putO_any v l a n _ _ B W h1 h2 hi hp (by omega)
  have hhb := has_bounds hp a
  obtain ⟨ao, cap, rfl⟩ := ho.shape
  have HFU : Hid (∀ W, Calls Tryz.prog 117 #[.slice ao l.length cap] W fun e w' => e = .returned (.bool (decide (l.length = 128))) ∧ w' = W) := fun W => full_any ao l.length cap W
  obtain ⟨L', n', hE⟩ : ∃ L' n', ledgerS ⟨5, l, shut, g⟩ ⟨8, a, b⟩ = (⟨5, L', shut, g⟩, n') := by
    unfold ledgerS
    rw [if_neg (by simp), if_neg (by simp)]
    repeat' split
    all_goals exact ⟨_, _, rfl⟩
  rw [hE]
  have HE0 := hide' hE
  have HE : Hid ((if a < 0 ∨ 255 < a then ((⟨5, l, shut, g⟩ : St), (-1 : Int)) else if b < 0 then (⟨5, l, shut, g⟩, -1) else if findF a 0 l < 0 ∧ l.length = 128 then (⟨5, l, shut, g⟩, -2) else (⟨5, withF a (cutZ (hasF a l + cutZ b)) false l, shut, g⟩, cutZ (hasF a l + cutZ b))) = (⟨5, L', shut, g⟩, n')) := by
    refine hide' ?_
    have h := HE0.out
    unfold ledgerS at h
    rw [if_neg (by simp), if_neg (by simp)] at h
    simpa using h
  clear hE ho hp hi HE0
  show Calls Tryz.prog _ _ w fun e w' => Acted B w (.slice ao l.length cap) L' n' e w'
  have hcb := cutZ_in b
  by_cases hk : 0 ≤ a ∧ a ≤ 255
  · have HN := hide' (decide_eq_true hk)
    have HK : Hid (¬ (a < 0 ∨ 255 < a)) := by
      show ¬ (a < 0 ∨ 255 < a)
      omega
    clear hk
    by_cases hb : b < 0
    · have HR : Hid (L' = l ∧ n' = -1) := by
        have h := HE.out
        rw [if_neg HK.out, if_pos hb] at h
        injection h with h1 h2
        injection h1 with _ h3
        exact ⟨h3.symm, h2.symm⟩
      go_enter Tryz.func119, Tryz.ntmps119
      go_wp2_with fail
      refine (HW.out _ _ _).mono ?_
      rintro e W1 ⟨a1, b1, rfl, hc1, hc2, hb1⟩
      have HB1 := hide' (Mv.ofBelow hb1 (.slice ao l.length cap))
      have HO1 := hide' (HO.out.below hb1 (Nat.le_refl _))
      clear hb1
      go_wp2_with fail
      refine (HS.out _ _ _ _ _ _ hc1 hc2).mono ?_
      rintro e W2 ⟨rfl, rfl⟩
      rw [HN.out]
      go_wp2
      go_ret2
      exact ⟨_, ret_vi HR.out.2.symm, by rw [HR.out.1]; exact HO1.out, HB1.out⟩
    · go_enter Tryz.func119, Tryz.ntmps119
      go_wp2_with fail
      refine (HW.out _ _ _).mono ?_
      rintro e W1 ⟨a1, b1, rfl, hc1, hc2, hb1⟩
      have HB1 := hide' (Mv.ofBelow hb1 (.slice ao l.length cap))
      have HO1 := hide' (HO.out.below hb1 (Nat.le_refl _))
      clear hb1
      go_wp2_with fail
      refine (HS.out _ _ _ _ _ _ hc1 hc2).mono ?_
      rintro e W2 ⟨rfl, rfl⟩
      rw [HN.out]
      clear hc1 hc2
      go_wp2_with fail
      refine (HLK.out _ HO1.out).mono ?_
      rintro e W2 ⟨rfl, hb2⟩
      have HB2 := hide' (HB1.out.trans (Mv.ofBelow hb2 _))
      have HO2 := hide' (HO1.out.below hb2 (Nat.le_refl _))
      have hB2 : B ≤ W2.heap.size := Nat.le_trans hB HB2.out.size
      clear hb2 HB1 HO1
      by_cases hfull : hitP a l = false ∧ l.length = 128
      · have HR : Hid (L' = l ∧ n' = -2) := by
          have h := HE.out
          rw [if_neg HK.out, if_neg (show ¬ b < 0 by omega), if_pos ⟨(hit_find a l).2 hfull.1, hfull.2⟩] at h
          injection h with h1 h2
          injection h1 with _ h3
          exact ⟨h3.symm, h2.symm⟩
        have HFD := hide' (decide_eq_true hfull.2)
        rw [hfull.1]
        clear hfull
        go_wp2_with fail
        refine (HFU.out _).mono ?_
        rintro e W3 ⟨rfl, rfl⟩
        rw [HFD.out]
        go_wp2
        go_ret2
        exact ⟨_, ret_vi HR.out.2.symm, by rw [HR.out.1]; exact HO2.out, HB2.out⟩
      · have HR : Hid (L' = withF a (cutZ (hasF a l + cutZ b)) false l ∧ n' = cutZ (hasF a l + cutZ b)) := by
          have h := HE.out
          rw [if_neg HK.out, if_neg (show ¬ b < 0 by omega), if_neg (fun h => hfull ⟨(hit_find a l).1 h.1, h.2⟩)] at h
          injection h with h1 h2
          injection h1 with _ h3
          exact ⟨h3.symm, h2.symm⟩
        generalize hasF a l = y at *
        cases hh : hitP a l
        · have HFD := hide' (decide_eq_false (fun h => hfull ⟨hh, h⟩))
          clear hfull hh
          go_wp2_with fail
          refine (HFU.out _).mono ?_
          rintro e W3 ⟨rfl, rfl⟩
          rw [HFD.out]
          go_wp2_with (first | (go_at_call 113; refine (HC.out _ _).mono ?_; rintro e w3 ⟨rfl, rfl⟩) | (go_at_call 118; refine (HPT.out _ _ HO2.out hB2).mono ?_; rintro e W3 ⟨v3, rfl, ho3, hb3⟩; have HB3 := hide' (HB2.out.trans hb3); have HO3 := hide' ho3; clear ho3 hb3))
          go_ret2
          exact ⟨_, ret_vi HR.out.2.symm, by rw [HR.out.1]; exact HO3.out, HB3.out⟩
        · clear hfull hh
          go_wp2_with (first | (go_at_call 113; refine (HC.out _ _).mono ?_; rintro e w3 ⟨rfl, rfl⟩) | (go_at_call 118; refine (HPT.out _ _ HO2.out hB2).mono ?_; rintro e W3 ⟨v3, rfl, ho3, hb3⟩; have HB3 := hide' (HB2.out.trans hb3); have HO3 := hide' ho3; clear ho3 hb3))
          go_ret2
          exact ⟨_, ret_vi HR.out.2.symm, by rw [HR.out.1]; exact HO3.out, HB3.out⟩
  · have HN := hide' (decide_eq_false hk)
    have HR : Hid (L' = l ∧ n' = -1) := by
      have h := HE.out
      rw [if_pos (show a < 0 ∨ 255 < a by omega)] at h
      injection h with h1 h2
      injection h1 with _ h3
      exact ⟨h3.symm, h2.symm⟩
    clear hk
    go_enter Tryz.func119, Tryz.ntmps119
    go_wp2_with fail
    refine (HW.out _ _ _).mono ?_
    rintro e W1 ⟨a1, b1, rfl, hc1, hc2, hb1⟩
    have HB1 := hide' (Mv.ofBelow hb1 (.slice ao l.length cap))
    have HO1 := hide' (HO.out.below hb1 (Nat.le_refl _))
    clear hb1
    go_wp2_with fail
    refine (HS.out _ _ _ _ _ _ hc1 hc2).mono ?_
    rintro e W2 ⟨rfl, rfl⟩
    rw [HN.out]
    go_wp2
    go_ret2
    exact ⟨_, ret_vi HR.out.2.symm, by rw [HR.out.1]; exact HO1.out, HB1.out⟩

end Go.Proofs.YtanmjihiceibbaaGreat

/- Contracts of objs: move. -/
namespace Go.Proofs.YtanmjihiceibbaaGreat
open Go.RowKit

set_option maxRecDepth 100000 in
set_option maxHeartbeats 1000000 in
theorem move_any (v : Value) (l : List Int) (code a b : Int) (shut : Bool) (g : Int) (B : Nat) (w : World) (ho : OwnI w B v l) (hB : B ≤ w.heap.size) (hp : Pairs 0 (-1) l) (hlim : l.length ≤ 128) :
    Calls Tryz.prog 120 #[v, .int .i64 a, .int .i64 b] w fun e w' => Acted B w v (moveS ⟨5, l, shut, g⟩ ⟨code, a, b⟩).1.L (moveS ⟨5, l, shut, g⟩ ⟨code, a, b⟩).2 e w' := by
  have hi := pairs_i64 (by decide) (by decide) hp
  have HO := hide' ho
  have HW := hide' (fun p q W => within_any p q W)
  have HS := hide' (fun n l2 h2 a2 b2 W p1 p2 => is_any n l2 h2 a2 b2 W p1 p2)
  have HLK : Hid (∀ k W, OwnI W B v l → Calls Tryz.prog 115 #[v, .int .i64 k] W fun e w' => e = .returned (.tuple #[.int .i64 (hasF k l), .bool (hitP k l)]) ∧ Below W.heap.size W w') := fun k W h => by
    rw [has_get]
    exact look_any v l k _ _ W (h.rd hi) hp (by omega)
  obtain ⟨ao, cap, rfl⟩ := ho.shape
  have HFU : Hid (∀ W, Calls Tryz.prog 117 #[.slice ao l.length cap] W fun e w' => e = .returned (.bool (decide (l.length = 128))) ∧ w' = W) := fun W => full_any ao l.length cap W
  obtain ⟨L', n', hE⟩ : ∃ L' n', moveS ⟨5, l, shut, g⟩ ⟨code, a, b⟩ = (⟨5, L', shut, g⟩, n') := by
    unfold moveS
    repeat' split
    all_goals exact ⟨_, _, rfl⟩
  rw [hE]
  have HE := hide' hE
  have HP := hide' hp
  have HI := hide' hi
  clear hE ho hp hi
  show Calls Tryz.prog _ _ w fun e w' => Acted B w (.slice ao l.length cap) L' n' e w'
  by_cases hk : 0 ≤ a ∧ a ≤ 65535
  · have HN := hide' (decide_eq_true hk)
    obtain ⟨hk0, hk1⟩ := hk
    by_cases hb : b < 0
    · have HR : Hid (L' = l ∧ n' = 0) := by
        have h := HE.out
        unfold moveS at h
        rw [if_pos (.inr (.inr hb))] at h
        injection h with h1 h2
        injection h1 with _ h3
        exact ⟨h3.symm, h2.symm⟩
      go_enter Tryz.func120, Tryz.ntmps120
      go_wp2_with fail
      refine (HW.out _ _ _).mono ?_
      rintro e W1 ⟨a1, b1, rfl, hc1, hc2, hb1⟩
      have HB1 := hide' (Mv.ofBelow hb1 (.slice ao l.length cap))
      have HO1 := hide' (HO.out.below hb1 (Nat.le_refl _))
      clear hb1
      go_wp2_with fail
      refine (HS.out _ _ _ _ _ _ hc1 hc2).mono ?_
      rintro e W2 ⟨rfl, rfl⟩
      rw [HN.out]
      go_wp2
      go_ret2
      exact ⟨_, ret_vi HR.out.2.symm, by rw [HR.out.1]; exact HO1.out, HB1.out⟩
    · have hb' : 0 ≤ b := by omega
      have HEQ : Hid ((if findF (a / 256) 0 l < 0 ∨ hasF (a / 256) l < b then ((⟨5, l, shut, g⟩ : St), (0 : Int)) else if a / 256 = a % 256 then (⟨5, l, shut, g⟩, 1) else if (findF (a % 256) 0 l < 0 ∧ l.length = 128) ∨ 1099511627776 < hasF (a % 256) l + b then (⟨5, l, shut, g⟩, 0) else (⟨5, withF (a % 256) (hasF (a % 256) l + b) false (withF (a / 256) (hasF (a / 256) l - b) false l), shut, g⟩, 1)) = (⟨5, L', shut, g⟩, n')) := by
        have h := HE.out
        unfold moveS at h
        rw [if_neg (by simp; omega)] at h
        exact h
      clear HE hb
      have HD1 : Hid (a.tdiv 256 = a / 256) := Int.tdiv_eq_ediv_of_nonneg hk0
      have HD2 : Hid (a.tmod 256 = a % 256) := Int.tmod_eq_emod_of_nonneg hk0
      have hF0 : 0 ≤ a / 256 := by omega
      have hF1 : a / 256 ≤ 255 := by omega
      have hT0 : 0 ≤ a % 256 := by omega
      have hT1 : a % 256 ≤ 255 := by omega
      have hbF := has_bounds HP.out (a / 256)
      have hbT := has_bounds HP.out (a % 256)
      obtain ⟨F, hF⟩ : ∃ F, F = a / 256 := ⟨_, rfl⟩
      obtain ⟨T, hT⟩ : ∃ T, T = a % 256 := ⟨_, rfl⟩
      rw [← hF] at HD1 HEQ hF0 hF1 hbF
      rw [← hT] at HD2 HEQ hT0 hT1 hbT
      clear hF hT
      have hd1 := HD1.out
      have hd2 := HD2.out
      go_enter Tryz.func120, Tryz.ntmps120
      go_wp2_with fail
      refine (HW.out _ _ _).mono ?_
      rintro e W1 ⟨a1, b1, rfl, hc1, hc2, hb1⟩
      have HB1 := hide' (Mv.ofBelow hb1 (.slice ao l.length cap))
      have HO1 := hide' (HO.out.below hb1 (Nat.le_refl _))
      clear hb1
      go_wp2_with fail
      refine (HS.out _ _ _ _ _ _ hc1 hc2).mono ?_
      rintro e W2 ⟨rfl, rfl⟩
      rw [HN.out]
      clear hc1 hc2
      go_wp2_with fail
      refine (HLK.out _ _ HO1.out).mono ?_
      rintro e W2 ⟨rfl, hb2⟩
      have HB2 := hide' (HB1.out.trans (Mv.ofBelow hb2 _))
      have HO2 := hide' (HO1.out.below hb2 (Nat.le_refl _))
      have hB2 : B ≤ W2.heap.size := Nat.le_trans hB HB2.out.size
      clear hb2 HB1 HO1
      cases hh : hitP F l
      · have HR : Hid (L' = l ∧ n' = 0) := by
          have h := HEQ.out
          rw [if_pos (.inl ((hit_find F l).2 hh))] at h
          injection h with h1 h2
          injection h1 with _ h3
          exact ⟨h3.symm, h2.symm⟩
        clear hh
        go_wp2
        go_ret2
        exact ⟨_, ret_vi HR.out.2.symm, by rw [HR.out.1]; exact HO2.out, HB2.out⟩
      · have HHF : Hid (¬ findF F 0 l < 0) := fun h => by rw [(hit_find F l).1 h] at hh; cases hh
        clear hh
        by_cases hlt : hasF F l < b
        · have HR : Hid (L' = l ∧ n' = 0) := by
            have h := HEQ.out
            rw [if_pos (.inr hlt)] at h
            injection h with h1 h2
            injection h1 with _ h3
            exact ⟨h3.symm, h2.symm⟩
          clear HHF
          go_wp2
          go_ret2
          exact ⟨_, ret_vi HR.out.2.symm, by rw [HR.out.1]; exact HO2.out, HB2.out⟩
        · by_cases hFT : F = T
          · have hq : (F == T) = true := beq_iff_eq.2 hFT
            have HR : Hid (L' = l ∧ n' = 1) := by
              have h := HEQ.out
              rw [if_neg (fun h => h.elim HHF.out hlt), if_pos hFT] at h
              injection h with h1 h2
              injection h1 with _ h3
              exact ⟨h3.symm, h2.symm⟩
            clear HHF hFT
            go_wp2
            go_ret2
            exact ⟨_, ret_vi HR.out.2.symm, by rw [HR.out.1]; exact HO2.out, HB2.out⟩
          · have hq : (F == T) = false := beq_eq_false_iff_ne.2 hFT
            have HNQ := hide' hFT
            have HLT := hide' hlt
            clear hFT
            go_wp2_with fail
            refine (HLK.out _ _ HO2.out).mono ?_
            rintro e W3 ⟨rfl, hb3⟩
            have HB3 := hide' (HB2.out.trans (Mv.ofBelow hb3 _))
            have HO3 := hide' (HO2.out.below hb3 (Nat.le_refl _))
            have hB3 : B ≤ W3.heap.size := Nat.le_trans hB HB3.out.size
            clear hb3 HB2 HO2 hB2
            by_cases hful : hitP T l = false ∧ l.length = 128
            · have HFD := hide' (decide_eq_true hful.2)
              have HR : Hid (L' = l ∧ n' = 0) := by
                have h := HEQ.out
                rw [if_neg (fun h => by have := HHF.out; have := HLT.out; omega), if_neg HNQ.out, if_pos (.inl ⟨(hit_find T l).2 hful.1, hful.2⟩)] at h
                injection h with h1 h2
                injection h1 with _ h3
                exact ⟨h3.symm, h2.symm⟩
              rw [hful.1]
              clear hful
              go_wp2_with fail
              refine (HFU.out _).mono ?_
              rintro e W4 ⟨rfl, rfl⟩
              rw [HFD.out]
              go_wp2
              go_ret2
              exact ⟨_, ret_vi HR.out.2.symm, by rw [HR.out.1]; exact HO3.out, HB3.out⟩
            · by_cases hbig : 1099511627776 < hasF T l + b
              · have HR : Hid (L' = l ∧ n' = 0) := by
                  have h := HEQ.out
                  rw [if_neg (fun h => by have := HHF.out; have := HLT.out; omega), if_neg HNQ.out, if_pos (.inr hbig)] at h
                  injection h with h1 h2
                  injection h1 with _ h3
                  exact ⟨h3.symm, h2.symm⟩
                cases hh : hitP T l
                · have HFD := hide' (decide_eq_false (fun h => hful ⟨hh, h⟩))
                  clear hful hh
                  go_wp2_with fail
                  refine (HFU.out _).mono ?_
                  rintro e W4 ⟨rfl, rfl⟩
                  rw [HFD.out]
                  go_wp2
                  go_ret2
                  exact ⟨_, ret_vi HR.out.2.symm, by rw [HR.out.1]; exact HO3.out, HB3.out⟩
                · clear hful hh
                  go_wp2
                  go_ret2
                  exact ⟨_, ret_vi HR.out.2.symm, by rw [HR.out.1]; exact HO3.out, HB3.out⟩
              · have HBIG := hide' hbig
                have HR : Hid (L' = withF T (hasF T l + b) false (withF F (hasF F l - b) false l) ∧ n' = 1) := by
                  have h := HEQ.out
                  rw [if_neg (fun h => by have := HHF.out; have := HLT.out; omega), if_neg HNQ.out, if_neg (fun h => h.elim (fun x => hful ⟨(hit_find T l).1 x.1, x.2⟩) (fun x => by have := HBIG.out; omega))] at h
                  injection h with h1 h2
                  injection h1 with _ h3
                  exact ⟨h3.symm, h2.symm⟩
                have HP1 : Hid (Pairs 0 (-1) (withF F (hasF F l - b) false l)) := withF_pairs F _ 0 (by omega) (by omega) hF1 l (-1) HP.out (by omega)
                have HL1 : Hid ((withF F (hasF F l - b) false l).length ≤ 1000000) := by
                  have := withF_length F (hasF F l - b) l false
                  show (withF F (hasF F l - b) false l).length ≤ 1000000
                  omega
                have HPA : Hid (∀ W, OwnI W B (.slice ao l.length cap) l → B ≤ W.heap.size → Calls Tryz.prog 118 #[.slice ao l.length cap, .int .i64 F, .int .i64 (hasF F l - b)] W fun e w' => ∃ v', e = .returned v' ∧ OwnI w' B v' (withF F (hasF F l - b) false l) ∧ Mv W w' (.slice ao l.length cap) v') := fun W h1 h2 => putO_any _ l F _ _ _ B W h1 h2 HI.out HP.out (by omega)
                have HPB : Hid (∀ v1 W, OwnI W B v1 (withF F (hasF F l - b) false l) → B ≤ W.heap.size → Calls Tryz.prog 118 #[v1, .int .i64 T, .int .i64 (hasF T l + b)] W fun e w' => ∃ v', e = .returned v' ∧ OwnI w' B v' (withF T (hasF T l + b) false (withF F (hasF F l - b) false l)) ∧ Mv W w' v1 v') := fun v1 W h1 h2 => putO_any v1 _ T _ _ _ B W h1 h2 (pairs_i64 (by decide) (by decide) HP1.out) HP1.out HL1.out
                generalize withF T (hasF T l + b) false (withF F (hasF F l - b) false l) = L2 at *
                generalize withF F (hasF F l - b) false l = L1 at *
                generalize hasF F l = y at *
                generalize hasF T l = z at *
                clear HP1 HL1 HEQ HLK
                cases hh : hitP T l
                · have HFD := hide' (decide_eq_false (fun h => hful ⟨hh, h⟩))
                  clear hful hh
                  go_wp2_with fail
                  refine (HFU.out _).mono ?_
                  rintro e W4 ⟨rfl, rfl⟩
                  rw [HFD.out]
                  go_wp2_with fail
                  refine (HPA.out _ HO3.out hB3).mono ?_
                  rintro e W5 ⟨v5, rfl, ho5, hb5⟩
                  have HB5 := hide' (HB3.out.trans hb5)
                  have HO5 := hide' ho5
                  have hB5 : B ≤ W5.heap.size := Nat.le_trans hB HB5.out.size
                  clear ho5 hb5
                  go_wp2_with fail
                  refine (HPB.out _ _ HO5.out hB5).mono ?_
                  rintro e W6 ⟨v6, rfl, ho6, hb6⟩
                  have HB6 := hide' (HB5.out.trans hb6)
                  have HO6 := hide' ho6
                  clear ho6 hb6
                  go_wp2
                  go_ret2
                  exact ⟨_, ret_vi HR.out.2.symm, by rw [HR.out.1]; exact HO6.out, HB6.out⟩
                · clear hful hh
                  go_wp2_with fail
                  refine (HPA.out _ HO3.out hB3).mono ?_
                  rintro e W5 ⟨v5, rfl, ho5, hb5⟩
                  have HB5 := hide' (HB3.out.trans hb5)
                  have HO5 := hide' ho5
                  have hB5 : B ≤ W5.heap.size := Nat.le_trans hB HB5.out.size
                  clear ho5 hb5
                  go_wp2_with fail
                  refine (HPB.out _ _ HO5.out hB5).mono ?_
                  rintro e W6 ⟨v6, rfl, ho6, hb6⟩
                  have HB6 := hide' (HB5.out.trans hb6)
                  have HO6 := hide' ho6
                  clear ho6 hb6
                  go_wp2
                  go_ret2
                  exact ⟨_, ret_vi HR.out.2.symm, by rw [HR.out.1]; exact HO6.out, HB6.out⟩
  · have HN := hide' (decide_eq_false hk)
    have HR : Hid (L' = l ∧ n' = 0) := by
      have h := HE.out
      unfold moveS at h
      rw [if_pos (show a < 0 ∨ 65535 < a ∨ b < 0 by omega)] at h
      injection h with h1 h2
      injection h1 with _ h3
      exact ⟨h3.symm, h2.symm⟩
    clear hk
    go_enter Tryz.func120, Tryz.ntmps120
    go_wp2_with fail
    refine (HW.out _ _ _).mono ?_
    rintro e W1 ⟨a1, b1, rfl, hc1, hc2, hb1⟩
    have HB1 := hide' (Mv.ofBelow hb1 (.slice ao l.length cap))
    have HO1 := hide' (HO.out.below hb1 (Nat.le_refl _))
    clear hb1
    go_wp2_with fail
    refine (HS.out _ _ _ _ _ _ hc1 hc2).mono ?_
    rintro e W2 ⟨rfl, rfl⟩
    rw [HN.out]
    go_wp2
    go_ret2
    exact ⟨_, ret_vi HR.out.2.symm, by rw [HR.out.1]; exact HO1.out, HB1.out⟩

end Go.Proofs.YtanmjihiceibbaaGreat

/- Contracts of objs: ledger, seal. -/
namespace Go.Proofs.YtanmjihiceibbaaGreat
open Go.RowKit

theorem hit_range {least key : Int} {l : List Int} (hp : Pairs least (-1) l) (h : hitP key l = true) : 0 ≤ key ∧ key ≤ 255 := by
  unfold hitP at h
  cases hg : getP key l with
  | none => rw [hg] at h; simp at h
  | some x =>
    have := getP_in hp hg
    omega

set_option maxRecDepth 100000 in
set_option maxHeartbeats 1000000 in
theorem ledgerO_any (v : Value) (l : List Int) (o : Opn) (shut : Bool) (g : Int) (B : Nat) (w : World) (ho : OwnI w B v l) (hB : B ≤ w.heap.size) (hp : Pairs 0 (-1) l) (hlim : l.length ≤ 128) :
    Calls Tryz.prog 98 #[v, opV o] w fun e w' => Acted B w v (ledgerS ⟨5, l, shut, g⟩ o).1.L (ledgerS ⟨5, l, shut, g⟩ o).2 e w' := by
  obtain ⟨code, a, b⟩ := o
  have hi := pairs_i64 (by decide) (by decide) hp
  have HO := hide' ho
  have HBA : Hid (∀ X, Mv w (w.alloc X) v v) := fun X => Mv.alloc w v X
  show Calls Tryz.prog _ #[_, .agg #[.int .i64 code, .int .i64 a, .int .i64 b]] w _
  by_cases c7 : code = 7
  · subst c7
    have HLK : Hid (∀ W, OwnI W B v l → Calls Tryz.prog 115 #[v, .int .i64 a] W fun e w' => e = .returned (.tuple #[.int .i64 ((getP a l).getD 0), .bool (hitP a l)]) ∧ Below W.heap.size W w') := fun W h => look_any v l a _ _ W (h.rd hi) hp (by omega)
    have HE : Hid (ledgerS ⟨5, l, shut, g⟩ ⟨7, a, b⟩ = (⟨5, l, shut, g⟩, hadF a l)) := by
      refine hide' ?_
      unfold ledgerS
      rw [if_neg (by simp), if_neg (by simp)]
      by_cases hk : a < 0 ∨ 255 < a
      · rw [if_pos hk]
        have hh : hitP a l = false := by
          cases h : hitP a l
          · rfl
          · have := hit_range hp h
            omega
        rw [had_miss hh]
      · rw [if_neg hk, if_pos rfl]
    rw [HE.out]
    clear HE ho hp hi
    cases hh : hitP a l
    · have HV := hide' (had_miss hh)
      rw [HV.out]
      rw [hh] at HLK
      clear HV hh
      generalize (getP a l).getD 0 = y at *
      go_enter Tryz.func98, Tryz.ntmps98
      go_wp2_with fail
      refine (HLK.out _ (HO.out.alloc _)).mono ?_
      rintro e W1 ⟨rfl, hb1⟩
      have HB1 := hide' ((HBA.out _).trans (Mv.ofBelow hb1 _))
      have HO1 := hide' ((HO.out.alloc _).below hb1 (Nat.le_refl _))
      clear hb1
      go_wp2
      go_ret2
      exact ⟨_, rfl, HO1.out, HB1.out⟩
    · have HV := hide' (had_hit hh)
      rw [HV.out]
      rw [hh] at HLK
      clear HV hh
      generalize (getP a l).getD 0 = y at *
      go_enter Tryz.func98, Tryz.ntmps98
      go_wp2_with fail
      refine (HLK.out _ (HO.out.alloc _)).mono ?_
      rintro e W1 ⟨rfl, hb1⟩
      have HB1 := hide' ((HBA.out _).trans (Mv.ofBelow hb1 _))
      have HO1 := hide' ((HO.out.alloc _).below hb1 (Nat.le_refl _))
      clear hb1
      go_wp2
      go_ret2
      exact ⟨_, rfl, HO1.out, HB1.out⟩
  · have e7 : (code == 7) = false := beq_eq_false_iff_ne.2 c7
    by_cases c8 : code = 8
    · subst c8
      have HP : Hid (∀ X, Calls Tryz.prog 119 #[v, .int .i64 a, .int .i64 b] (w.alloc X) fun e w' => Acted B (w.alloc X) v (ledgerS ⟨5, l, shut, g⟩ ⟨8, a, b⟩).1.L (ledgerS ⟨5, l, shut, g⟩ ⟨8, a, b⟩).2 e w') := fun X => deposit_any v l a b shut g B (w.alloc X) (HO.out.alloc X) (by simp; omega) hp hlim
      generalize (ledgerS ⟨5, l, shut, g⟩ ⟨8, a, b⟩).1.L = L' at *
      generalize (ledgerS ⟨5, l, shut, g⟩ ⟨8, a, b⟩).2 = n at *
      clear ho hi hp c7 e7
      go_enter Tryz.func98, Tryz.ntmps98
      go_wp2_with fail
      refine (HP.out _).mono ?_
      rintro e W1 ⟨v1, rfl, ho1, hb1⟩
      have HO1 := hide' ho1
      have HB1 := hide' ((HBA.out _).trans hb1)
      clear ho1 hb1
      go_wp2
      go_ret2
      exact ⟨_, rfl, HO1.out, HB1.out⟩
    · have e8 : (code == 8) = false := beq_eq_false_iff_ne.2 c8
      by_cases c9 : code = 9
      · have HE : Hid (ledgerS ⟨5, l, shut, g⟩ ⟨code, a, b⟩ = moveS ⟨5, l, shut, g⟩ ⟨code, a, b⟩) := if_pos c9
        rw [HE.out]
        have e9 : (code == 9) = true := beq_iff_eq.2 c9
        have HP : Hid (∀ X, Calls Tryz.prog 120 #[v, .int .i64 a, .int .i64 b] (w.alloc X) fun e w' => Acted B (w.alloc X) v (moveS ⟨5, l, shut, g⟩ ⟨code, a, b⟩).1.L (moveS ⟨5, l, shut, g⟩ ⟨code, a, b⟩).2 e w') := fun X => move_any v l code a b shut g B (w.alloc X) (HO.out.alloc X) (by simp; omega) hp hlim
        generalize (moveS ⟨5, l, shut, g⟩ ⟨code, a, b⟩).1.L = L' at *
        generalize (moveS ⟨5, l, shut, g⟩ ⟨code, a, b⟩).2 = n at *
        clear ho hi hp c7 c8 c9 HE
        go_enter Tryz.func98, Tryz.ntmps98
        go_wp2_with fail
        refine (HP.out _).mono ?_
        rintro e W1 ⟨v1, rfl, ho1, hb1⟩
        have HO1 := hide' ho1
        have HB1 := hide' ((HBA.out _).trans hb1)
        clear ho1 hb1
        go_wp2
        go_ret2
        exact ⟨_, rfl, HO1.out, HB1.out⟩
      · have e9 : (code == 9) = false := beq_eq_false_iff_ne.2 c9
        have HE : Hid (ledgerS ⟨5, l, shut, g⟩ ⟨code, a, b⟩ = (⟨5, l, shut, g⟩, 0)) := by
          refine hide' ?_
          unfold ledgerS
          rw [if_neg c9, if_pos ⟨c7, c8⟩]
        rw [HE.out]
        clear ho hi hp c7 c8 c9 HE
        go_enter Tryz.func98, Tryz.ntmps98
        go_wp2
        go_ret2
        exact ⟨_, rfl, HO.out.alloc _, HBA.out _⟩

set_option maxRecDepth 100000 in
set_option maxHeartbeats 2000000 in
theorem seal_any (kind : Int) (ao : Option Addr) (n cap : Nat) (shut : Bool) (g a : Int) (w : World) :
    Calls Tryz.prog 93 #[.agg #[.int .i64 kind, .slice ao n cap, .bool shut, .int .i64 g], .int .i64 a] w fun e w' => e = .returned (.agg #[.int .i64 kind, .slice ao n cap, .bool true, .int .i64 (if 0 ≤ a ∧ a ≤ 2 then a else g)]) ∧ Below w.heap.size w w' := by
  have HW := hide' (fun p q W => within_any p q W)
  have HS := hide' (fun n l2 h2 a2 b2 W p1 p2 => is_any n l2 h2 a2 b2 W p1 p2)
  have HBA : Hid (∀ x y, Below w.heap.size w ((w.alloc x).alloc y)) := fun x y => ((Below.refl _ _).alloc (Nat.le_refl _) x).alloc (by simp) y
  by_cases hk : 0 ≤ a ∧ a ≤ 2
  · rw [if_pos hk]
    have HN := hide' (decide_eq_true hk)
    clear hk
    go_enter Tryz.func93, Tryz.ntmps93
    go_wp2_with fail
    refine (HW.out _ _ _).mono ?_
    rintro e W1 ⟨a1, b1, rfl, hc1, hc2, hb1⟩
    have hbx : Box2 W1 w.heap.size _ _ := (Box2.made w _ _).below hb1 (by simp)
    have q0 := (hbx.s 0).1
    have q1 := (hbx.s 1).1
    have q2 := (hbx.s 2).1
    have q3 := (hbx.s 3).1
    have f2 := (hbx.s 2).2
    have f3 := (hbx.s 3).2
    have r0 := (hbx.r 0).1
    have r1 := (hbx.r 1).1
    have r2 := (hbx.r 2).1
    have r3 := (hbx.r 3).1
    have s0 := (hbx.r 0).2
    have s1 := (hbx.r 1).2
    have s2 := (hbx.r 2).2
    have s3 := (hbx.r 3).2
    have HB1 := hide' ((HBA.out _ _).trans (hb1.mono (HBA.out _ _).size))
    have HC1 : Hid (∀ x, (W1.setCell ⟨w.heap.size, 2, none⟩ x).cell? ⟨a1, 0, none⟩ = some (.int .i64 0)) := fun x => (World.cell?_setCell_other _ _ _ _ (by simp)).trans hc1
    have HC2 : Hid (∀ x, (W1.setCell ⟨w.heap.size, 2, none⟩ x).cell? ⟨b1, 0, none⟩ = some (.int .i64 2)) := fun x => (World.cell?_setCell_other _ _ _ _ (by simp)).trans hc2
    clear hb1 hbx hc1 hc2
    go_wp2_with fail
    refine (HS.out _ _ _ _ _ _ (HC1.out _) (HC2.out _)).mono ?_
    rintro e W2 ⟨rfl, rfl⟩
    rw [HN.out]
    go_wp2
    refine bodyPost_ret (v := .agg #[.int .i64 kind, .slice ao n cap, .bool true, .int .i64 a]) (by simp [results, Tryz.results93, go_sem, r0, r1, r2, r3]) rfl ?_
    exact ⟨rfl, ((((((HB1.out.setCell (Nat.le_refl _) _).setCell (Nat.le_refl _) _).setCell (Nat.le_succ _) _).setCell (Nat.le_succ _) _).setCell (Nat.le_succ _) _).setCell (Nat.le_succ _) _)⟩
  · rw [if_neg hk]
    have HN := hide' (decide_eq_false hk)
    clear hk
    go_enter Tryz.func93, Tryz.ntmps93
    go_wp2_with fail
    refine (HW.out _ _ _).mono ?_
    rintro e W1 ⟨a1, b1, rfl, hc1, hc2, hb1⟩
    have hbx : Box2 W1 w.heap.size _ _ := (Box2.made w _ _).below hb1 (by simp)
    have q0 := (hbx.s 0).1
    have q1 := (hbx.s 1).1
    have q2 := (hbx.s 2).1
    have q3 := (hbx.s 3).1
    have f2 := (hbx.s 2).2
    have f3 := (hbx.s 3).2
    have r0 := (hbx.r 0).1
    have r1 := (hbx.r 1).1
    have r2 := (hbx.r 2).1
    have r3 := (hbx.r 3).1
    have s0 := (hbx.r 0).2
    have s1 := (hbx.r 1).2
    have s2 := (hbx.r 2).2
    have s3 := (hbx.r 3).2
    have HB1 := hide' ((HBA.out _ _).trans (hb1.mono (HBA.out _ _).size))
    have HC1 : Hid (∀ x, (W1.setCell ⟨w.heap.size, 2, none⟩ x).cell? ⟨a1, 0, none⟩ = some (.int .i64 0)) := fun x => (World.cell?_setCell_other _ _ _ _ (by simp)).trans hc1
    have HC2 : Hid (∀ x, (W1.setCell ⟨w.heap.size, 2, none⟩ x).cell? ⟨b1, 0, none⟩ = some (.int .i64 2)) := fun x => (World.cell?_setCell_other _ _ _ _ (by simp)).trans hc2
    clear hb1 hbx hc1 hc2
    go_wp2_with fail
    refine (HS.out _ _ _ _ _ _ (HC1.out _) (HC2.out _)).mono ?_
    rintro e W2 ⟨rfl, rfl⟩
    rw [HN.out]
    go_wp2
    refine bodyPost_ret (v := .agg #[.int .i64 kind, .slice ao n cap, .bool true, .int .i64 g]) (by simp [results, Tryz.results93, go_sem, r0, r1, r2, r3]) rfl ?_
    exact ⟨rfl, (((((HB1.out.setCell (Nat.le_refl _) _).setCell (Nat.le_succ _) _).setCell (Nat.le_succ _) _).setCell (Nat.le_succ _) _).setCell (Nat.le_succ _) _)⟩

end Go.Proofs.YtanmjihiceibbaaGreat

