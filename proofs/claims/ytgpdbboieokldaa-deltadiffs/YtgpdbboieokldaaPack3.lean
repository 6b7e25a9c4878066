import Derived.Test.YtgpdbboieokldaaPack2
import Derived.Test.YtgpdbboieokldaaPack1
import Derived.Deep.RegionLaw
import Derived.Deep.QuietTactic
import Derived.BigQuiet
import Derived.Laws.StructEq
/- Mathematics for the landed snapshot: notes by a cut, tables without a test of their length, pieces one by one, tables whose processes rise. -/
namespace Go.Proofs.Ytgpdbboieokldaa

/-- The first place whose process is greater, or the end. -/
def firstG (p : Int) : List Ent → Nat
  | [] => 0
  | x :: t => if p < x.proc then 0 else firstG p t + 1

theorem firstG_le (p : Int) : ∀ t, firstG p t ≤ t.length
  | [] => Nat.le_refl _
  | x :: t => by
    rw [firstG]
    split
    · exact Nat.zero_le _
    · have := firstG_le p t
      rw [List.length_cons]
      omega

/-- The entries but those of a process. -/
def butP (p : Int) (t : List Ent) : List Ent := t.filter (fun x => decide (x.proc ≠ p))

theorem butP_len (p : Int) (t : List Ent) : (butP p t).length ≤ t.length := List.length_filter_le _ _

theorem noteL_ins (e : Ent) : ∀ t : List Ent, noteL t e = (butP e.proc t).take (firstG e.proc (butP e.proc t)) ++ (e :: (butP e.proc t).drop (firstG e.proc (butP e.proc t)))
  | [] => rfl
  | x :: t => by
    have ih := noteL_ins e t
    unfold noteL at ih ⊢
    unfold butP at ih ⊢
    have hf : (x :: t).filter (fun y => decide (y.proc ≠ e.proc)) = if x.proc = e.proc then t.filter (fun y => decide (y.proc ≠ e.proc)) else x :: t.filter (fun y => decide (y.proc ≠ e.proc)) := by
      rw [List.filter_cons]
      by_cases h : x.proc = e.proc <;> simp [h]
    rw [noteG, hf]
    by_cases h1 : x.proc = e.proc
    · have h2 : ¬ e.proc < x.proc := by omega
      simp only [h1, if_true]
      rw [if_neg (by simp), decide_eq_false (by omega), Bool.false_or, ih]
      rfl
    · simp only [if_neg h1]
      by_cases h2 : e.proc < x.proc
      · rw [if_pos (by simp [h2]), decide_eq_true h2, Bool.or_true, noteG_done, firstG, if_pos h2]
        rfl
      · rw [if_neg (fun h => h2 h.2), decide_eq_false h2, Bool.or_false, firstG, if_neg h2, ih]
        rfl

theorem firstG_all {p : Int} : ∀ {t : List Ent}, (∀ j, j < t.length → ¬ p < (t.getD j zeroE).proc) → firstG p t = t.length
  | [], _ => rfl
  | x :: t, h => by
    have h0 := h 0 (by simp)
    rw [show (x :: t).getD 0 zeroE = x from rfl] at h0
    rw [firstG, if_neg h0, firstG_all (fun j hj => h (j + 1) (by simpa using hj))]
    rfl

theorem firstG_at {p : Int} : ∀ {t : List Ent} {i : Nat}, i < t.length → (∀ j, j < i → ¬ p < (t.getD j zeroE).proc) → p < (t.getD i zeroE).proc → firstG p t = i
  | [], i, hi, _, _ => absurd hi (Nat.not_lt_zero _)
  | x :: t, 0, _, _, h => by
    rw [show (x :: t).getD 0 zeroE = x from rfl] at h
    rw [firstG, if_pos h]
  | x :: t, i + 1, hi, hb, h => by
    have h0 := hb 0 (by omega)
    rw [show (x :: t).getD 0 zeroE = x from rfl] at h0
    rw [firstG, if_neg h0, firstG_at (i := i) (by simpa using hi) (fun j hj => hb (j + 1) (by omega)) h]

theorem readE_few {n : Nat} {b : List UInt8} {r : List Ent × List UInt8} (h : readE n b = some r) : n ≤ b.length := by
  obtain ⟨t, x⟩ := r
  obtain ⟨h1, h2⟩ := readE_sound n b t x h
  have := entsL_len t
  rw [h2, List.length_append]
  omega

theorem tableL_plain {b : List UInt8} (h0 : (dec62 b).2 ≠ 0) : tableL b = (readE (dec62 b).1 (b.drop (dec62 b).2)).bind (fun r => if r.2 = [] then some r.1 else none) := by
  unfold tableL
  by_cases h1 : b.length < (dec62 b).1
  · rw [if_pos (.inr h1)]
    cases h : readE (dec62 b).1 (b.drop (dec62 b).2) with
    | none => rfl
    | some r =>
      have := readE_few h
      rw [List.length_drop] at this
      omega
  rw [if_neg (by omega)]
  cases readE (dec62 b).1 (b.drop (dec62 b).2) with
  | none => rfl
  | some p =>
    obtain ⟨t, x⟩ := p
    cases x <;> rfl

theorem pieces_drop {l : List UInt8} {a : Nat} (h : a < l.length) : pieces (l.drop a) = (l.drop a).take 64 :: pieces (l.drop (a + 64)) := by
  rw [pieces_cons (fun e => by
    have := congrArg List.length e
    rw [List.length_drop, List.length_nil] at this
    omega), List.drop_drop]

theorem cutOk_iff (P : List (List UInt8)) : CutOk P ↔ P = pieces P.flatten :=
  ⟨fun h => (cutOk_pieces P h).symm, fun h => by rw [h]; exact pieces_cutOk _ _ (Nat.le_refl _)⟩

/-- An entry is within its bounds if a record of its numbers fits. -/
theorem entOk_rec (e : Ent) : FitsR ⟨0, e.proc, e.seq, ⟨0, 0, 0⟩, e.resp⟩ ↔ EntOk e := by
  unfold FitsR EntOk FitsO
  simp only
  omega

/-- What the process of the next entry may be at least, behind the first k. -/
def leastP (t : List Ent) : Nat → Int
  | 0 => 0
  | k + 1 => (t.getD k zeroE).proc + 1

theorem tabTo_least {t : List Ent} {k : Nat} : TabTo t (k + 1) ↔ TabTo t k ∧ EntOk (t.getD k zeroE) ∧ leastP t k ≤ (t.getD k zeroE).proc := by
  rw [TabTo.next]
  constructor
  · rintro ⟨h1, h2, h3⟩
    refine ⟨h1, h2, ?_⟩
    cases k with
    | zero => exact h2.1
    | succ k =>
      have := h3 (by omega)
      rw [Nat.add_sub_cancel] at this
      rw [leastP]
      omega
  · rintro ⟨h1, h2, h3⟩
    refine ⟨h1, h2, fun h => ?_⟩
    cases k with
    | zero => omega
    | succ k =>
      rw [leastP] at h3
      rw [Nat.add_sub_cancel]
      omega

theorem mayN_zero (i : Int) (t : List Ent) : ¬ MayN ⟨i, zeroS, t⟩ := by
  rintro ⟨-, h, -⟩
  revert h
  show ¬ MayS zeroS
  decide

/-- So many numbers of bytes, and what is left. -/
def getsL : Nat → List UInt8 → Option (List Nat × List UInt8)
  | 0, b => some ([], b)
  | n + 1, b => if (dec62 b).2 = 0 then none else (getsL n (b.drop (dec62 b).2)).map (fun r => ((dec62 b).1 :: r.1, r.2))

end Go.Proofs.Ytgpdbboieokldaa

/- What changes a snapshot's numbers and table into those of a later one, over plain lists: applied, it makes the later ones. -/
namespace Go.Proofs.Ytgpdbboieokldaa

/-- How many numbers both lists begin with. -/
def preL : List Int → List Int → Nat
  | x :: a, y :: b => if x = y then preL a b + 1 else 0
  | [], _ => 0
  | _ :: _, [] => 0

theorem preL_le : ∀ a b : List Int, preL a b ≤ a.length ∧ preL a b ≤ b.length
  | [], b => by simp [preL]
  | x :: a, [] => by simp [preL]
  | x :: a, y :: b => by
    have ih := preL_le a b
    rw [preL]
    split
    · simp only [List.length_cons]; omega
    · simp

theorem preL_take : ∀ a b : List Int, a.take (preL a b) = b.take (preL a b)
  | [], b => by simp [preL]
  | x :: a, [] => by simp [preL]
  | x :: a, y :: b => by
    rw [preL]
    split
    · rename_i h
      rw [List.take_succ_cons, List.take_succ_cons, preL_take a b, h]
    · simp

/-- How many numbers both end with, of those that are left of both. -/
def sufL (a b : List Int) : Nat := preL (a.drop (preL a b)).reverse (b.drop (preL a b)).reverse

/-- What stands between. -/
def midL (a b : List Int) : List Int := (b.drop (preL a b)).take ((b.drop (preL a b)).length - sufL a b)

theorem drop_end (p : List Int) (m : Nat) : p.drop (p.length - m) = (p.reverse.take m).reverse := by
  rw [List.take_reverse, List.reverse_reverse]

theorem sufL_le (a b : List Int) : preL a b + sufL a b ≤ a.length ∧ preL a b + sufL a b ≤ b.length := by
  have h := preL_le a b
  have h2 := preL_le (a.drop (preL a b)).reverse (b.drop (preL a b)).reverse
  rw [List.length_reverse, List.length_reverse, List.length_drop, List.length_drop] at h2
  unfold sufL
  omega

/-- Applied, the later numbers. -/
theorem diff_apply (a b : List Int) : a.take (preL a b) ++ (midL a b ++ a.drop (a.length - sufL a b)) = b := by
  have hs := sufL_le a b
  have e1 : a.drop (a.length - sufL a b) = (a.drop (preL a b)).drop ((a.drop (preL a b)).length - sufL a b) := by
    rw [List.drop_drop, List.length_drop]
    congr 1
    omega
  have e2 : (a.drop (preL a b)).drop ((a.drop (preL a b)).length - sufL a b) = (b.drop (preL a b)).drop ((b.drop (preL a b)).length - sufL a b) := by
    rw [drop_end, drop_end]
    unfold sufL
    rw [preL_take]
  rw [e1, e2]
  unfold midL
  rw [List.take_append_drop, preL_take, List.take_append_drop]

theorem Rises.one {t : List Ent} (h : Rises t) : ∀ {x y : Ent}, x ∈ t → y ∈ t → x.proc = y.proc → x = y := by
  induction t with
  | nil => intro x y hx; cases hx
  | cons z t ih =>
    intro x y hx hy hp
    have hz := (List.pairwise_cons.1 h).1
    have ht := (List.pairwise_cons.1 h).2
    rcases List.mem_cons.1 hx with ex | hx'
    · rcases List.mem_cons.1 hy with ey | hy'
      · rw [ex, ey]
      · have := hz y hy'
        rw [ex] at hp
        omega
    · rcases List.mem_cons.1 hy with ey | hy'
      · have := hz x hx'
        rw [ey] at hp
        omega
      · exact ih ht hx' hy' hp

theorem fold_rise : ∀ (D : List Ent) {t : List Ent}, Rises t → Rises (D.foldl noteL t)
  | [], _, h => h
  | _ :: D, _, h => fold_rise D (noteL_rises h)

theorem fold_mem : ∀ (D : List Ent), Rises D → ∀ (t : List Ent) (x : Ent), x ∈ D.foldl noteL t ↔ x ∈ D ∨ (x ∈ t ∧ ∀ e ∈ D, x.proc ≠ e.proc)
  | [], _, t, x => by simp
  | e :: D, hD, t, x => by
    have he := (List.pairwise_cons.1 hD).1
    rw [List.foldl_cons, fold_mem D (List.pairwise_cons.1 hD).2, noteL_mem, List.mem_cons]
    constructor
    · rintro (h | ⟨h | ⟨h, h'⟩, h2⟩)
      · exact .inl (.inr h)
      · exact .inl (.inl h)
      · exact .inr ⟨h, fun z hz => by
          rcases List.mem_cons.1 hz with rfl | hz
          · exact h'
          · exact h2 z hz⟩
    · rintro ((h | h) | ⟨h, h2⟩)
      · refine .inr ⟨.inl h, fun z hz => ?_⟩
        have := he z hz
        rw [h]
        omega
      · exact .inl h
      · exact .inr ⟨.inr ⟨h, h2 e (by simp)⟩, fun z hz => h2 z (by simp [hz])⟩

/-- The entries of a later table that the elder one has not, just so. -/
def diffT (a b : List Ent) : List Ent := b.filter (fun e => decide (e ∉ a))

/-- Noted one behind the other, the later table. -/
theorem diffT_apply {a b : List Ent} (ha : Rises a) (hb : Rises b) (hp : ∀ x ∈ a, ∃ y ∈ b, y.proc = x.proc) : (diffT a b).foldl noteL a = b := by
  have hD : Rises (diffT a b) := List.Pairwise.filter _ hb
  have hm : ∀ e, e ∈ diffT a b ↔ e ∈ b ∧ e ∉ a := fun e => by
    unfold diffT
    rw [List.mem_filter]
    simp
  refine rises_same (fold_rise _ ha) hb (fun x => ?_)
  rw [fold_mem _ hD, hm]
  constructor
  · rintro (h | ⟨h, h2⟩)
    · exact h.1
    · obtain ⟨y, hy, hyp⟩ := hp x h
      by_cases hya : y ∈ a
      · have := ha.one hya h hyp
        rw [← this]
        exact hy
      · exact absurd hyp.symm (h2 y ((hm y).2 ⟨hy, hya⟩))
  · intro h
    by_cases hxa : x ∈ a
    · refine .inr ⟨hxa, fun e he hpe => ?_⟩
      obtain ⟨he1, he2⟩ := (hm e).1 he
      have := hb.one h he1 hpe
      rw [this] at hxa
      exact he2 hxa
    · exact .inl ⟨h, hxa⟩

end Go.Proofs.Ytgpdbboieokldaa

/- Deltas as bytes, over plain lists, and what follows. -/
namespace Go.Proofs.Ytgpdbboieokldaa

/-- A delta. -/
structure Delt where
  frm : Int
  upto : Int
  ahead : Int
  behind : Int
  mid : List Int
  shut : Bool
  eng : Int
  tab : List Ent

def zeroD : Delt := ⟨0, 0, 0, 0, [], false, 0, []⟩

def IdxOk (n : Int) : Prop := 0 ≤ n ∧ n < 4611686018427387904

instance (n : Int) : Decidable (IdxOk n) := by unfold IdxOk; infer_instance

/-- May a delta be? -/
def MayD (d : Delt) : Prop := IdxOk d.frm ∧ IdxOk d.upto ∧ IdxOk d.ahead ∧ IdxOk d.behind ∧ d.mid.length ≤ 128 ∧ (∀ x ∈ d.mid, -1099511627776 ≤ x ∧ x ≤ 1099511627776) ∧ (0 ≤ d.eng ∧ d.eng ≤ 2) ∧ (d.shut = false → d.eng = 0) ∧ TabOk d.tab

instance (d : Delt) : Decidable (MayD d) := by unfold MayD; infer_instance

def sealD (d : Delt) : Nat := if d.shut = true then d.eng.toNat + 1 else 0

/-- A delta's data. -/
def dataD (d : Delt) : List UInt8 := Lib.uvarint d.frm.toNat ++ (Lib.uvarint d.upto.toNat ++ (Lib.uvarint d.ahead.toNat ++ (Lib.uvarint d.behind.toNat ++ (Lib.uvarint d.mid.length ++ (numsL d.mid ++ (Lib.uvarint (sealD d) ++ tabL d.tab))))))

def encD (d : Delt) : List UInt8 := frameOf (dataD d)

/-- The delta that data are. -/
def readD (b : List UInt8) : Option Delt :=
  match getsL 5 b with
  | none => none
  | some (ns, l) => if 128 < ns.getD 4 0 then none else
    match readL (ns.getD 4 0) l with
    | none => none
    | some (xs, u) => if (dec62 (l.drop u)).2 = 0 ∨ 3 < (dec62 (l.drop u)).1 then none else
      match tableL ((l.drop u).drop (dec62 (l.drop u)).2) with
      | none => none
      | some t => some ⟨(ns.getD 0 0 : Nat), (ns.getD 1 0 : Nat), (ns.getD 2 0 : Nat), (ns.getD 3 0 : Nat), xs, decide (0 < (dec62 (l.drop u)).1), if 0 < (dec62 (l.drop u)).1 then ((dec62 (l.drop u)).1 : Int) - 1 else 0, t⟩

/-- The delta that bytes are, or the first error. -/
def decD (b : List UInt8) : Delt × Int :=
  if (decF b).2.2 ≠ 0 then (zeroD, ((decF b).2.2 : Nat))
  else if (decF b).2.1 ≠ b.length then (zeroD, 16)
  else match readD (decF b).1 with
    | none => (zeroD, 3)
    | some d => if MayD d then (d, 0) else (zeroD, 1)

theorem getsL_uv {n k : Nat} (hk : k < 4611686018427387904) (t : List UInt8) : getsL (n + 1) (Lib.uvarint k ++ t) = (getsL n t).map (fun r => (k :: r.1, r.2)) := by
  rw [getsL, dec62_uvarint k t hk]
  simp only
  rw [if_neg (uv_ne k), List.drop_left]

theorem getsL_zero (b : List UInt8) : getsL 0 b = some ([], b) := rfl

theorem readD_data {d : Delt} (h : MayD d) : readD (dataD d) = some d := by
  obtain ⟨⟨f0, f1⟩, ⟨t0, t1⟩, ⟨a0, a1⟩, ⟨b0, b1⟩, hm, hx, ⟨e0, e1⟩, hs, ht⟩ := h
  have hfew := tabOk_few ht
  have hsl : sealD d ≤ 3 := by unfold sealD; split <;> omega
  unfold readD dataD
  rw [getsL_uv (by omega), getsL_uv (by omega), getsL_uv (by omega), getsL_uv (by omega), getsL_uv (by omega), getsL_zero]
  simp only [Option.map_some, List.getD_cons_zero, List.getD_cons_succ]
  rw [if_neg (by omega), readL_nums d.mid _ (fun x hh => ⟨by have := hx x hh; omega, by have := hx x hh; omega⟩)]
  simp only
  rw [List.drop_left, dec62_uvarint (sealD d) _ (by omega)]
  simp only
  rw [if_neg (by have := uv_ne (sealD d); omega), List.drop_left, tableL_enc (fun e he => ht.mem e he) (by omega)]
  simp only [Option.some.injEq]
  obtain ⟨frm, upto, ahead, behind, mid, shut, eng, tab⟩ := d
  simp only at *
  unfold sealD
  cases shut with
  | true =>
    simp only [if_true]
    congr 1
    · omega
    · omega
    · omega
    · omega
    · simp
      omega
  | false =>
    have := hs rfl
    subst this
    simp
    omega

theorem uvD {n : Nat} (h : n < 4611686018427387904) : (Lib.uvarint n).length ≤ 10 := Lib.uvarint_length64 (by omega)

theorem encD_len {d : Delt} (h : MayD d) : (dataD d).length ≤ 4000 := by
  obtain ⟨⟨f0, f1⟩, ⟨t0, t1⟩, ⟨a0, a1⟩, ⟨b0, b1⟩, hm, hx, ⟨e0, e1⟩, hs, ht⟩ := h
  have hfew := tabOk_few ht
  have hsl : sealD d ≤ 3 := by unfold sealD; split <;> omega
  have q1 : (Lib.uvarint d.frm.toNat).length ≤ 10 := uvD (by omega)
  have q2 : (Lib.uvarint d.upto.toNat).length ≤ 10 := uvD (by omega)
  have q3 : (Lib.uvarint d.ahead.toNat).length ≤ 10 := uvD (by omega)
  have q4 : (Lib.uvarint d.behind.toNat).length ≤ 10 := uvD (by omega)
  have q5 : (Lib.uvarint d.mid.length).length ≤ 10 := uvD (by omega)
  have q6 : (Lib.uvarint (sealD d)).length ≤ 10 := uvD (by omega)
  have q7 := numsL_le d.mid (fun x hh => ⟨by have := hx x hh; omega, by have := hx x hh; omega⟩)
  have q8 : (Lib.uvarint d.tab.length).length ≤ 10 := uvD (by omega)
  have q9 := entsL_le d.tab (fun e he => ht.mem e he)
  unfold dataD tabL
  simp only [List.length_append]
  omega

theorem decD_enc {d : Delt} (h : MayD d) : decD (encD d) = (d, 0) := by
  have hl := encD_len h
  have hd := decF_frame (dataD d) [] (by omega)
  rw [List.append_nil] at hd
  unfold decD encD
  rw [hd]
  simp only
  rw [if_neg (by omega), if_neg (by omega), readD_data h]
  simp only
  rw [if_pos h]

theorem getsL_sound : ∀ (n : Nat) (b : List UInt8) (ns : List Nat) (l : List UInt8), getsL n b = some (ns, l) → ns.length = n ∧ b = ns.flatMap Lib.uvarint ++ l ∧ ∀ k ∈ ns, k < 4611686018427387904
  | 0, b, ns, l, h => by
    simp only [getsL, Option.some.injEq, Prod.mk.injEq] at h
    obtain ⟨rfl, rfl⟩ := h
    exact ⟨rfl, rfl, fun k hk => by simp at hk⟩
  | n + 1, b, ns, l, h => by
    rw [getsL] at h
    split at h
    · cases h
    · rename_i hne
      rw [Option.map_eq_some_iff] at h
      obtain ⟨⟨ms, m⟩, hr, he⟩ := h
      simp only [Prod.mk.injEq] at he
      obtain ⟨rfl, rfl⟩ := he
      obtain ⟨i1, i2, i3⟩ := getsL_sound n _ ms m hr
      refine ⟨by rw [List.length_cons, i1], ?_, ?_⟩
      · rw [List.flatMap_cons, List.append_assoc, ← i2, dec62_take hne, List.take_append_drop]
      · intro k hk
        rcases List.mem_cons.1 hk with rfl | hk
        · rcases dec62_cases b with h | h
          · rw [h]; decide
          · exact h.1
        · exact i3 k hk

theorem five_list {ns : List Nat} (h : ns.length = 5) : ns = [ns.getD 0 0, ns.getD 1 0, ns.getD 2 0, ns.getD 3 0, ns.getD 4 0] := by
  match ns, h with
  | [a, b, c, d, e], _ => rfl

theorem readD_sound {b : List UInt8} {d : Delt} (h : readD b = some d) : dataD d = b := by
  unfold readD at h
  cases hg : getsL 5 b with
  | none => rw [hg] at h; cases h
  | some p =>
    obtain ⟨ns, l⟩ := p
    rw [hg] at h
    simp only at h
    obtain ⟨g1, g2, g3⟩ := getsL_sound 5 b ns l hg
    split at h
    · cases h
    · cases hr : readL (ns.getD 4 0) l with
      | none => rw [hr] at h; cases h
      | some q =>
        obtain ⟨xs, u⟩ := q
        rw [hr] at h
        simp only at h
        obtain ⟨r1, r2, r3, r4⟩ := readL_sound _ l xs u hr
        split at h
        · cases h
        · rename_i hns
          cases ht : tableL ((l.drop u).drop (dec62 (l.drop u)).2) with
          | none => rw [ht] at h; cases h
          | some t =>
            rw [ht] at h
            simp only [Option.some.injEq] at h
            subst h
            have s1 : (dec62 (l.drop u)).2 ≠ 0 := fun e => hns (.inl e)
            have s2 := dec62_take s1
            have s3 := tableL_sound ht
            unfold dataD sealD
            simp only [Int.toNat_natCast]
            have hse : (if decide (0 < (dec62 (l.drop u)).1) = true then (if 0 < (dec62 (l.drop u)).1 then ((dec62 (l.drop u)).1 : Int) - 1 else 0).toNat + 1 else 0) = (dec62 (l.drop u)).1 := by
              by_cases h0 : 0 < (dec62 (l.drop u)).1
              · rw [if_pos (decide_eq_true h0), if_pos h0]
                omega
              · rw [if_neg (by simp [h0])]
                omega
            rw [hse, s3, s2, List.take_append_drop, r3, List.take_append_drop, r1]
            rw [five_list g1] at g2
            simp only [List.flatMap_cons, List.flatMap_nil, List.append_nil, List.append_assoc] at g2
            exact g2.symm

theorem decD_sound {b : List UInt8} (h : (decD b).2 = 0) : MayD (decD b).1 ∧ encD (decD b).1 = b := by
  unfold decD at h ⊢
  by_cases h1 : (decF b).2.2 ≠ 0
  · rw [if_pos h1] at h
    simp only at h
    omega
  rw [if_neg h1] at h ⊢
  by_cases h2 : (decF b).2.1 ≠ b.length
  · rw [if_pos h2] at h
    exact absurd h (by decide)
  rw [if_neg h2] at h ⊢
  cases hr : readD (decF b).1 with
  | none => rw [hr] at h; exact absurd h (by decide)
  | some d =>
    rw [hr] at h
    simp only at h ⊢
    by_cases hm : MayD d
    · rw [if_pos hm]
      refine ⟨hm, ?_⟩
      unfold encD
      simp only
      rw [readD_sound hr]
      obtain ⟨-, k2, -, k4⟩ := decF_ok (l := b) (by omega)
      rw [← k4, List.take_of_length_le (by omega)]
    · rw [if_neg hm] at h
      exact absurd h (by decide)

end Go.Proofs.Ytgpdbboieokldaa

/- append onto bytes of the call's own, of any bytes that can be read: a law for the walk. -/
namespace Go.Proofs.Ytgpdbboieokldaa
open Go.RowKit

theorem Own.nil (w : World) (B : Nat) : Own w B (.slice none 0 0) [] := World.ownsRow_nil w B 5 1

theorem run_append_rd (w : World) (ty : TypeId) (B : Nat) (v : Value) (l0 : List UInt8) (hown : Own w B v l0) (vx : Value) (l : List UInt8) (hr : Rd w vx l)
    (hlim : l0.length + l.length ≤ 70368744177664) (hbase : B ≤ w.heap.size) :
    ∃ v' w', (Builtin.append_ #[41, 41] ty #[v, vx]).run Try.prog w = .ok v' w' ∧ Own w' B v' (l0 ++ l) ∧ Below B w w' := by
  obtain ⟨i0, hi, hz0, hz1, hz2⟩ := info_parts info8
  obtain ⟨ao, cap, rfl, hlc, hcm, hn0, hao⟩ := hr
  cases ao with
  | none =>
    have hc := hn0 rfl
    subst hc
    have hl : l = [] := List.eq_nil_of_length_eq_zero (by omega)
    subst hl
    have hrun := run_append_owned_none (P := Try.prog) w B 41 ty 5 i0 1 Try.underlying41 hi v l0.length (Lib.byteCells l0) hown
    exact ⟨v, w, hrun, by rw [List.append_nil]; exact hown, Below.refl _ _⟩
  | some a =>
    obtain ⟨v', w', hrun, ho, hg, _⟩ := run_append_own (P := Try.prog) w B 41 ty 5 i0 (.int .u8 0) 1 1 Try.underlying41 hi hz0 hz1 hz2 rfl (by decide) v l0.length (Lib.byteCells l0) hown a l.length cap (Lib.byteCells l)
      (by rw [byteCells_length, Nat.mul_one]) (Rd.cells hao a rfl) (byteCells_one l) (by unfold maxLen; omega) (by omega) hbase
    refine ⟨v', w', hrun, Own.mk' ho (by simp) (by simp [Lib.byteCells]), ?_⟩
    exact (Below.refl _ _).grown hg hbase (fun k hk => (World.ownsRow.lt hown k hk).1)

theorem wp_append_rd {o : Oper} {a : Act} {K : Act → World → Prop} {Q : Exit → Act → World → Prop} (w : World) (s x : Operand)
    (ho : o.op = .call { callee := .builtin .append, args := #[s, x], argTypes := #[41, 41] })
    (B : Nat) (v : Value) (l0 : List UInt8) (hs : a.eval s = v) (hown : Own w B v l0) (vx : Value) (l : List UInt8) (hx : a.eval x = vx) (hr : Rd w vx l)
    (hlim : l0.length + l.length ≤ 70368744177664) (hbase : B ≤ w.heap.size)
    (h : ∀ v' w', Own w' B v' (l0 ++ l) → Below B w w' → K (a.put o.dst v') w') : o.wp Try.prog a w K Q := by
  obtain ⟨v', w', hrun, h2, h3⟩ := run_append_rd w o.type B v l0 hown vx l hr hlim hbase
  unfold Oper.wp execOp
  simp only [ho, resolve, invoke, builtin, Sem.run_bind, Sem.run_pure, Result.andThen_ok, List.map_toArray, List.map_cons, List.map_nil, hs, hx, hrun]
  exact h v' w' h2 h3

theorem wpList_append_rd (w : World) {ops : Array Oper} {rest : List Oper} {o : Oper} {a : Act} {Q : Exit → Act → World → Prop} (hgd : o.guard = none) (s x : Operand)
    (ho : o.op = .call { callee := .builtin .append, args := #[s, x], argTypes := #[41, 41] })
    (B : Nat) (v : Value) (l0 : List UInt8) (hs : a.eval s = v) (hown : Own w B v l0) (vx : Value) (l : List UInt8) (hx : a.eval x = vx) (hr : Rd w vx l)
    (hlim : l0.length + l.length ≤ 70368744177664) (hbase : B ≤ w.heap.size)
    (h : ∀ v' w', Own w' B v' (l0 ++ l) → Below B w w' → wpList Try.prog ops Q rest (a.put o.dst v') w') : wpList Try.prog ops Q (o :: rest) a w :=
  wpList_plain hgd fun _ hK => wp_append_rd w s x ho B v l0 hs hown vx l hx hr hlim hbase fun v' w' h2 h3 => hK _ _ (h v' w' h2 h3)

/-- The same as one step of a region that draws its order. -/
theorem step_append_rd {ops : Array Oper} {o : Oper} {a : Act} {w : World} {K : Act → World → Prop} {Q : Exit → Act → World → Prop} {E : Prop}
    (hg : o.guard = none) (s x : Operand) (hop : o.op = Op.call { callee := Callee.builtin Builtin.append, args := #[s, x], argTypes := #[41, 41] })
    (B : Nat) (v : Value) (l0 : List UInt8) (hs : a.eval s = v) (hown : Own w B v l0) (vx : Value) (l : List UInt8) (hx : a.eval x = vx) (hr : Rd w vx l)
    (hlim : l0.length + l.length ≤ 70368744177664) (hbase : B ≤ w.heap.size)
    (hK : ∀ v' w', Own w' B v' (l0 ++ l) → Below B w w' → K (a.put o.dst v') w') :
    if Region.wanted o (yielded ops a.tmps) = true then Oper.wp Try.prog o a w K Q else E := by
  have hw : Region.wanted o (yielded ops a.tmps) = true := by simp [Region.wanted, hg]
  rw [if_pos hw]
  exact wp_append_rd w s x hop B v l0 hs hown vx l hx hr hlim hbase hK

/-- The same where the operation is guarded, and wanted. -/
theorem wpList_append_rdw (w : World) {ops : Array Oper} {rest : List Oper} {o : Oper} {a : Act} {Q : Exit → Act → World → Prop} (hw : Region.wanted o (yielded ops a.tmps) = true) (s x : Operand)
    (ho : o.op = .call { callee := .builtin .append, args := #[s, x], argTypes := #[41, 41] })
    (B : Nat) (v : Value) (l0 : List UInt8) (hs : a.eval s = v) (hown : Own w B v l0) (vx : Value) (l : List UInt8) (hx : a.eval x = vx) (hr : Rd w vx l)
    (hlim : l0.length + l.length ≤ 70368744177664) (hbase : B ≤ w.heap.size)
    (h : ∀ v' w', Own w' B v' (l0 ++ l) → Below B w w' → wpList Try.prog ops Q rest (a.put o.dst v') w') : wpList Try.prog ops Q (o :: rest) a w :=
  wpList_step fun _ hK => by
    rw [if_pos hw]
    exact wp_append_rd w s x ho B v l0 hs hown vx l hx hr hlim hbase fun v' w' h2 h3 => hK _ _ (h v' w' h2 h3)

end Go.Proofs.Ytgpdbboieokldaa

/- Contracts of own, putGroups, Put, PutSigned: what the answer holds, that it is the call's own, and that nothing older has turned. -/
namespace Go.Proofs.Ytgpdbboieokldaa
open Go.RowKit

set_option maxRecDepth 100000 in
set_option maxHeartbeats 400000 in
theorem own_any (v : Value) (l : List UInt8) (w : World) (hr : Rd w v l) (hlim : l.length ≤ 70368744177664) :
    Calls Try.prog 93 #[v] w fun e w' => ∃ v', e = .returned v' ∧ Own w' w.heap.size v' l ∧ Below w.heap.size w w' := by
  obtain ⟨i0, hi, hz0, hz1, hz2⟩ := info_parts info8
  have HR := hide hr
  obtain ⟨ao, cap, rfl, hlc, hcm, hn0, hao⟩ := hr
  have HA := hide hao
  have HN := hide hn0
  clear hao hn0
  go_enter Try.func93, Try.ntmps93
  go_wp2_with (at_make; refine wpList_make_own _ rfl _ _ 41 rfl w.heap.size 5 i0 (.int .u8 0) 1 Try.underlying41 hi hz0 hz1 _ _ _ (l.length + 10) rfl rfl (by omega) (by rw [hz2]; omega) (by unfold maxLen; omega) (Nat.le_refl _) ?_)
  intro w1 hown hgrow
  have hb1 : Below w.heap.size w w1 := (Below.refl _ _).grown hgrow (Nat.le_refl _) (fun k hk => by cases hk)
  obtain ⟨ao', cap', hv', _, _, _, hao'⟩ := HR.out.below hb1 (Nat.le_refl _)
  simp only [Value.slice.injEq] at hv'
  obtain ⟨rfl, _, rfl⟩ := hv'
  have HA1 := hide hao'
  have HB := hide hb1
  have HG := hide hgrow
  clear hao' hb1 hgrow HA
  go_wp2_with (at_builtin; refine wpList_append_fits_any _ rfl _ _ 41 rfl w.heap.size 5 i0 1 Try.underlying41 hi hz1 w.heap.size 0 (l.length + 10) [] rfl hown ao l.length cap (Lib.byteCells l) rfl (by rw [byteCells_length, Nat.mul_one]) (fun e => ⟨by have := HN.out e; omega, HN.out e⟩) (Rd.cells HA1.out) (byteCells_one l) (by omega) ?_)
  intro w2 hown2 hgrow2
  have hb2 : Below w.heap.size w w2 := HB.out.grown hgrow2 (by have := HB.out.size; omega) (fun k hk => by simp at hk; omega)
  have HB2 := hide hb2
  have HO := hide hown2
  clear hb2 hgrow2 hown2 hown
  go_wp2
  go_ret
  exact ⟨_, rfl, Own.mk' HO.out (by simp) (by simp), HB2.out⟩

theorem or128 (y : Nat) : bits .or .u8 ((y : Int) % 256) 128 = (y : Int) % 128 + 128 := by
  rw [Lib.u8_or128_any _ (by omega) (by omega)]
  omega

theorem Own.snoc {w : World} {B : Nat} {v : Value} (l pre : List UInt8) (a : Nat) (ha : a < 256) {n : Nat} {x : Int} (h : w.ownsRow B 5 1 v n (Lib.byteCells (l ++ pre) ++ [Value.int .u8 x])) (hn : n = l.length + pre.length + 1) (hx : x = (a : Int)) : Own w B v (l ++ (pre ++ [a.toUInt8])) := by
  subst hx
  refine Own.mk' h (by rw [hn]; simp; omega) ?_
  rw [← List.append_assoc, Lib.byteCells_snoc _ ha]

set_option maxRecDepth 100000 in
set_option maxHeartbeats 1000000 in
theorem putGroups_any (v : Value) (l : List UInt8) (u : Nat) (w : World) (hr : Rd w v l) (hlim : l.length ≤ 70368744177664) (hu : u < 18446744073709551616) :
    Calls Try.prog 94 #[v, .int .u64 (u : Int)] w fun e w' => ∃ v', e = .returned v' ∧ Own w' w.heap.size v' (l ++ Lib.uvarint u) ∧ Below w.heap.size w w' := by
  obtain ⟨i0, hi, hz0, hz1, hz2⟩ := info_parts info8
  have hlen := Lib.uvarint_length64 hu
  have HC := hide (own_any v l w hr hlim)
  have HU := hide hu
  clear hr hu
  go_enter Try.func94, Try.ntmps94
  go_wp2_with fail
  refine HC.out.mono ?_
  rintro e w0 ⟨v0, rfl, hown0, hb0⟩
  have HO0 := hide hown0
  have HB0 := hide hb0
  clear hown0 hb0 HC
  go_wp2
  go_loopw [1, 5] (fun vu vb wr => ∃ (y : Nat) (pre : List UInt8), vu = .int .u64 (y : Int) ∧ Hid (y ≤ u ∧ Lib.uvarint u = pre ++ Lib.uvarint y) ∧ Hid (Own wr w.heap.size vb (l ++ pre)) ∧ Hid (Below w.heap.size w wr))
    (fun vu _ _ => (intOf vu).toNat)
  case atStart => exact ⟨u, [], rfl, ⟨Nat.le_refl _, rfl⟩, by rw [List.append_nil]; exact HO0.out, HB0.out⟩
  case round =>
    obtain ⟨y, pre, rfl, hys, hown1, hnx⟩ := hrel
    have hpl : pre.length + (Lib.uvarint y).length ≤ 10 := by
      have h2 := congrArg List.length hys.out.2
      rw [List.length_append] at h2
      omega
    have hyp := Lib.uvarint_pos y
    have hsz := hnx.out.size
    by_cases h128 : 128 ≤ y
    · have hor := or128 y
      go_wp2_with (at_builtin; refine wpList_append_own _ rfl _ _ 41 rfl w.heap.size 5 i0 (.int .u8 0) 1 1 Try.underlying41 hi hz0 hz1 hz2 rfl (by decide) _ _ _ rfl (World.ownsRow.alloc hown1.out _) ⟨wr.heap.size, 0, none⟩ 1 1 [Value.int .u8 ((y % 128 + 128 : Nat) : Int)] rfl rfl ?c1 ?c2 ?c3 ?c4 ?c5 ?_)
      case c1 =>
        intro j u hj
        match j, hj with
        | 0, hj => simp at hj; subst hj; simp [Addr.add]
      case c2 => intro u hu; simp at hu; subst hu; rfl
      case c3 => unfold maxLen; simp; omega
      case c4 => simp; omega
      case c5 => simp; omega
      intro v' w1 hown' hgrow _
      have hnx1 : Below w.heap.size w w1 := (hnx.out.alloc (by omega) _).grown hgrow (by simp; omega) (fun k hk => (World.ownsRow.lt hown1.out k hk).1)
      have HO := hide (Own.snoc l pre (y % 128 + 128) (by omega) hown' (by simp) (by omega))
      have HB := hide hnx1
      clear hown' hnx1 hgrow
      go_wp2
      go_roundw
      case rel => exact ⟨y / 128, pre ++ [(y % 128 + 128).toUInt8], by go_num, ⟨by have := hys.out.1; omega, by rw [hys.out.2, Lib.uvarint_big h128]; simp⟩, HO, HB⟩
      case measure => simp [intOf]; omega
    · have hsm : Lib.uvarint y = [y.toUInt8] := Lib.uvarint_small (by omega)
      have HS := hide hsm
      clear hsm
      go_wp2_with (at_builtin; refine wpList_append_own _ rfl _ _ 41 rfl w.heap.size 5 i0 (.int .u8 0) 1 1 Try.underlying41 hi hz0 hz1 hz2 rfl (by decide) _ _ _ rfl (World.ownsRow.alloc hown1.out _) ⟨wr.heap.size, 0, none⟩ 1 1 [Value.int .u8 (y : Int)] rfl rfl ?c1 ?c2 ?c3 ?c4 ?c5 ?_)
      case c1 =>
        intro j u hj
        match j, hj with
        | 0, hj => simp at hj; subst hj; simp [Addr.add]
      case c2 => intro u hu; simp at hu; subst hu; rfl
      case c3 => unfold maxLen; simp; omega
      case c4 => simp; omega
      case c5 => simp; omega
      intro v' w1 hown' hgrow _
      have hnx1 : Below w.heap.size w w1 := (hnx.out.alloc (by omega) _).grown hgrow (by simp; omega) (fun k hk => (World.ownsRow.lt hown1.out k hk).1)
      have HO := hide (Own.snoc l pre y (by omega) hown' (by simp) rfl)
      have HB := hide hnx1
      clear hown' hnx1 hgrow
      go_wp2
      go_ret
      refine ⟨v', rfl, ?_, HB.out⟩
      rw [hys.out.2, HS.out]
      exact HO.out

/-- What Put answers: the bytes, and behind them the groups, if the number may be. -/
def putOf (l : List UInt8) (n : Int) : List UInt8 := if 0 ≤ n ∧ n < 4611686018427387904 then l ++ Lib.uvarint n.toNat else l

set_option maxRecDepth 100000 in
set_option maxHeartbeats 400000 in
theorem put_any (v : Value) (l : List UInt8) (n : Int) (w : World) (hr : Rd w v l) (hlim : l.length ≤ 70368744177664) :
    Calls Try.prog 65 #[v, .int .i64 n] w fun e w' => ∃ v', e = .returned v' ∧ Own w' w.heap.size v' (putOf l n) ∧ Below w.heap.size w w' := by
  by_cases h : 0 ≤ n ∧ n < 4611686018427387904
  · obtain ⟨h0, h1⟩ := h
    have HE : Hid (putOf l n = l ++ Lib.uvarint n.toNat) := if_pos ⟨h0, h1⟩
    have HC := hide (putGroups_any v l n.toNat w hr hlim (by omega))
    have en : ((n.toNat : Nat) : Int) = n := Int.toNat_of_nonneg h0
    rw [en] at HC
    clear en hr
    go_enter Try.func65, Try.ntmps65
    go_wp2_with fail
    refine HC.out.mono ?_
    rintro e w' ⟨v', rfl, ho, hb⟩
    have HO := hide ho
    have HB := hide hb
    clear ho hb HC
    go_wp2
    go_ret
    exact ⟨v', rfl, by rw [HE.out]; exact HO.out, HB.out⟩
  · have HE : Hid (putOf l n = l) := if_neg h
    have HC := hide (own_any v l w hr hlim)
    clear hr
    by_cases h0 : n < 0
    all_goals
      go_enter Try.func65, Try.ntmps65
      go_wp2_with fail
      refine HC.out.mono ?_
      rintro e w' ⟨v', rfl, ho, hb⟩
      have HO := hide ho
      have HB := hide hb
      clear ho hb HC
      go_wp2
      go_ret
      exact ⟨v', rfl, by rw [HE.out]; exact HO.out, HB.out⟩

set_option maxRecDepth 100000 in
set_option maxHeartbeats 400000 in
theorem putSigned_any (v : Value) (l : List UInt8) (n : Int) (w : World) (hr : Rd w v l) (hlim : l.length ≤ 70368744177664) (h0 : -9223372036854775808 ≤ n) (h1 : n ≤ 9223372036854775807) :
    Calls Try.prog 69 #[v, .int .i64 n] w fun e w' => ∃ v', e = .returned v' ∧ Own w' w.heap.size v' (l ++ Lib.uvarint (Lib.zigzag n)) ∧ Below w.heap.size w w' := by
  have HC := hide (putGroups_any v l (Lib.zigzag n) w hr hlim (Lib.zigzag_lt h0 h1))
  have HZ := hide (zig_any n w h0 h1)
  generalize Lib.zigzag n = z at *
  clear hr h0 h1
  go_enter Try.func69, Try.ntmps69
  go_wp2_with fail
  refine HZ.out.mono ?_
  rintro e w' ⟨rfl, rfl⟩
  go_wp2_with fail
  refine HC.out.mono ?_
  rintro e w' ⟨v', rfl, ho, hb⟩
  have HO := hide ho
  have HB := hide hb
  clear ho hb HC HZ
  go_wp2
  go_ret
  exact ⟨v', rfl, HO.out, HB.out⟩

end Go.Proofs.Ytgpdbboieokldaa

/- Contracts of countGroups, getGroups, Get, GetSigned. -/
namespace Go.Proofs.Ytgpdbboieokldaa
open Go.RowKit

/-- c is how many groups the bytes begin with; 0: the last one lacks, or is beyond ten. -/
def Cnt (l : List UInt8) (c : Nat) : Prop :=
  (c = 0 ∧ ∀ j, j < 10 → j < l.length → 128 ≤ (l.getD j 0).toNat) ∨
  (1 ≤ c ∧ c ≤ 10 ∧ c ≤ l.length ∧ (∀ j, j + 1 < c → 128 ≤ (l.getD j 0).toNat) ∧ (l.getD (c - 1) 0).toNat < 128)

set_option maxRecDepth 100000 in
set_option maxHeartbeats 400000 in
theorem count_any (v : Value) (l : List UInt8) (w : World) (hr : Rd w v l) :
    Calls Try.prog 114 #[v] w fun e w' => ∃ c : Nat, e = .returned (.int .i64 (c : Int)) ∧ Cnt l c ∧ w' = w := by
  obtain ⟨ao, cap, rfl, hlc, hcm, hn0, hao⟩ := hr
  clear hn0
  have hml : (l.length : Int) ≤ 9223372036854775807 := by unfold maxLen at hcm; omega
  by_cases h10 : (l.length : Int) ≤ 10
  all_goals
    go_enter Try.func114, Try.ntmps114
    go_wp2
    go_loop [7] (fun i => ∃ k : Nat, i = .int .i64 k ∧ k ≤ 10 ∧ k ≤ l.length ∧ Hid (∀ j, j < k → 128 ≤ (l.getD j 0).toNat)) (fun i => 10 - (intOf i).toNat)
    case atStart => exact ⟨0, rfl, by omega, by omega, fun j hj => by omega⟩
    case round =>
      obtain ⟨k, rfl, hk10, hkl, hall⟩ := hrel
      by_cases hlt : k < 10 ∧ k < l.length
      · obtain ⟨hlt, hlt'⟩ := hlt
        rcases hao with hao | ⟨b, off, rfl, hc⟩
        · subst hao; simp at hlt'
        · have hck := hc k hlt'
          clear hc
          obtain ⟨y, hy⟩ : ∃ y, y = (l.getD k 0).toNat := ⟨_, rfl⟩
          rw [← hy] at hck
          have HY : Hid (y = (l.getD k 0).toNat) := hy
          clear hy
          by_cases hyb : (y : Int) < 128
          · go_wp2
            go_ret
            refine ⟨k + 1, ret_int (by omega), .inr ⟨by omega, by omega, by omega, fun j hj => hall.out j (by omega), ?_⟩, rfl⟩
            rw [Nat.add_sub_cancel, ← HY.out]
            omega
          · go_wp2
            go_round
            case rel =>
              refine ⟨k + 1, by go_num, by omega, by omega, fun j hj => ?_⟩
              by_cases e : j = k
              · rw [e, ← HY.out]; omega
              · exact hall.out j (by omega)
            case measure => simp [intOf]; omega
      · go_wp2
        go_ret
        exact ⟨0, rfl, .inl ⟨rfl, fun j h1 h2 => hall.out j (by omega)⟩, rfl⟩

theorem dec64_none {l : List UInt8} (h : Cnt l 0) : dec64 l = (0, 0) := by
  rcases h with ⟨_, h⟩ | h
  · unfold dec64
    rw [dec_miss 10 l h]
  · omega

theorem dec_cnt {l : List UInt8} {c : Nat} (h : Cnt l (c + 1)) : c < 10 ∧ c < l.length ∧ (l.getD c 0).toNat < 128 ∧
    dec 10 l = if 0 < c ∧ (l.getD c 0).toNat = 0 then none else some (val (l.take (c + 1)), c + 1) := by
  rcases h with h | ⟨h1, h2, h3, h4, h5⟩
  · omega
  · have h5' : (l.getD c 0).toNat < 128 := by simpa using h5
    exact ⟨by omega, by omega, h5', dec_hit c 10 l (by omega) (by omega) (fun j hj => h4 j (by omega)) h5'⟩

theorem val_take_lt (l : List UInt8) (k : Nat) (h : k ≤ l.length) : val (l.take k) < 128 ^ k := by
  have := val_lt (l.take k)
  rwa [List.length_take, Nat.min_eq_left h] at this

theorem dec64_ten {l : List UInt8} (h : Cnt l 10) (hy : (l.getD 9 0).toNat ≠ 1) : dec64 l = (0, 0) := by
  obtain ⟨h1, h2, h3, h4⟩ := dec_cnt h
  unfold dec64
  rw [h4]
  by_cases hz : (l.getD 9 0).toNat = 0
  · rw [if_pos ⟨by omega, hz⟩]
  · rw [if_neg (fun e => hz e.2)]
    have hv := val_take l 9 h2
    have hm : (l.getD 9 0).toNat % 128 = (l.getD 9 0).toNat := Nat.mod_eq_of_lt h3
    rw [hm] at hv
    have e9 : 128 ^ 9 = 9223372036854775808 := by decide
    rw [e9] at hv
    have : ¬ val (l.take (9 + 1)) < 18446744073709551616 := by omega
    simp only [this, if_false]

theorem dec64_last0 {l : List UInt8} {c : Nat} (h : Cnt l (c + 1)) (hc : 0 < c) (hy : (l.getD c 0).toNat = 0) : dec64 l = (0, 0) := by
  obtain ⟨h1, h2, h3, h4⟩ := dec_cnt h
  unfold dec64
  rw [h4, if_pos ⟨hc, hy⟩]

theorem dec64_good {l : List UInt8} {c : Nat} (h : Cnt l (c + 1)) (h10 : c = 9 → (l.getD c 0).toNat = 1) (h0 : 0 < c → (l.getD c 0).toNat ≠ 0) :
    dec64 l = (val (l.take (c + 1)), c + 1) ∧ val (l.take (c + 1)) < 18446744073709551616 := by
  obtain ⟨h1, h2, h3, h4⟩ := dec_cnt h
  have hlt : val (l.take (c + 1)) < 18446744073709551616 := by
    by_cases e : c = 9
    · subst e
      have hv := val_take l 9 h2
      have hv9 := val_take_lt l 9 (by omega)
      rw [h10 rfl] at hv
      have e9 : 128 ^ 9 = 9223372036854775808 := by decide
      rw [e9] at hv hv9
      omega
    · have hv := val_take_lt l (c + 1) (by omega)
      have hp : 128 ^ (c + 1) ≤ 128 ^ 9 := Nat.pow_le_pow_right (by decide) (by omega)
      have e9 : 128 ^ 9 = 9223372036854775808 := by decide
      omega
  refine ⟨?_, hlt⟩
  unfold dec64
  rw [h4, if_neg (fun e => h0 e.1 e.2)]
  simp only [hlt, if_true]

theorem or_low (k y x : Nat) (hk : k < 64) (hy : y < 2 ^ k) (hx : x * 2 ^ k < 18446744073709551616) :
    bits .or .u64 (y : Int) (IntKind.u64.wrap ((x : Int) * 2 ^ k)) = ((y + x * 2 ^ k : Nat) : Int) := by
  have e : ((x : Int) * 2 ^ k) = ((x * 2 ^ k : Nat) : Int) := by simp
  have hp : ((2 ^ k : Nat) : Int) = (2 : Int) ^ k := by simp
  have hk64 : (2 : Nat) ^ k ≤ 2 ^ 64 := Nat.pow_le_pow_right (by decide) (by omega)
  rw [e, wraps_u64 _ (by omega) (by omega), bits_join_low .u64 64 (by decide) wraps_u64 k (y : Int) ((x * 2 ^ k : Nat) : Int) (by omega) (by rw [← hp]; omega) (by omega) (by omega) (by rw [← hp]; simp) (by omega)]
  omega

theorem or_step (l : List UInt8) (k : Nat) (hk : k < l.length) (h10 : k < 10) (h9 : k = 9 → (l.getD k 0).toNat % 128 ≤ 1) :
    bits .or .u64 ((val (l.take k) : Nat) : Int) (IntKind.u64.wrap (((l.getD k 0).toNat : Int) % 128 * 2 ^ (7 * k))) = ((val (l.take (k + 1)) : Nat) : Int) := by
  have hv := val_take_lt l k (by omega)
  rw [val_take l k hk, ← pow7]
  rw [← pow7] at hv
  have e : (((l.getD k 0).toNat : Int) % 128) = (((l.getD k 0).toNat % 128 : Nat) : Int) := by omega
  rw [e]
  refine or_low (7 * k) _ _ (by omega) hv ?_
  by_cases hk9 : k = 9
  · have := h9 hk9
    subst hk9
    have e9 : 2 ^ (7 * 9) = 9223372036854775808 := by decide
    rw [e9]
    omega
  · have hp : 2 ^ (7 * k) ≤ 2 ^ 56 := Nat.pow_le_pow_right (by decide) (by omega)
    have hm : (l.getD k 0).toNat % 128 ≤ 127 := by omega
    have := Nat.mul_le_mul hm hp
    have e56 : 127 * 2 ^ 56 < 18446744073709551616 := by decide
    omega

set_option maxRecDepth 100000 in
set_option maxHeartbeats 400000 in
theorem groups_any (v : Value) (l : List UInt8) (w : World) (hr : Rd w v l) :
    Calls Try.prog 98 #[v] w fun e w' => e = .returned (.tuple #[.int .u64 ((dec64 l).1 : Nat), .int .i64 ((dec64 l).2 : Nat)]) ∧ w' = w := by
  have hcnt := count_any v l w hr
  obtain ⟨ao, cap, rfl, hlc, hcm, hn0, hao⟩ := hr
  clear hn0
  have HC := hide hcnt
  clear hcnt
  go_enter Try.func98, Try.ntmps98
  go_wp2_with fail
  refine HC.out.mono ?_
  rintro e w' ⟨c, rfl, hc, rfl⟩
  have hc : Hid (Cnt l c) := hc
  clear HC
  cases c with
  | zero =>
    have H : Hid (dec64 l = (0, 0)) := dec64_none hc.out
    go_wp2
    go_ret2
    exact ⟨by rw [H.out]; rfl, rfl⟩
  | succ c =>
    obtain ⟨hc10, hcl, hyl, hdec⟩ := dec_cnt hc.out
    clear hdec
    rcases hao with hao | ⟨b, off, rfl, hcell⟩
    · subst hao; simp at hcl
    have hck := hcell c hcl
    obtain ⟨y, hy⟩ : ∃ y, y = (l.getD c 0).toNat := ⟨_, rfl⟩
    rw [← hy] at hck hyl
    have HY : Hid (y = (l.getD c 0).toNat) := hy
    have HCELL := hide hcell
    clear hy hcell
    by_cases hbad : (c = 9 ∧ y ≠ 1) ∨ (0 < c ∧ y = 0)
    · have H : Hid (dec64 l = (0, 0)) := by
        rcases hbad with ⟨h9, hy1⟩ | ⟨h0, hy0⟩
        · subst h9
          exact dec64_ten hc.out (by rw [← HY.out]; exact hy1)
        · exact dec64_last0 hc.out h0 (by rw [← HY.out]; exact hy0)
      by_cases h9 : c = 9
      · have e9 : (((c : Int) + 1) == 10) = true := beq_iff_eq.2 (by omega)
        have hne : ((y : Int) != 1) = true := by rw [bne_iff_ne]; omega
        clear hbad h9
        go_wp2
        go_ret2
        exact ⟨by rw [H.out]; rfl, rfl⟩
      · have e9 : (((c : Int) + 1) == 10) = false := beq_eq_false_iff_ne.2 (by omega)
        have e1 : (1 : Int) < (c : Int) + 1 := by omega
        have e0 : ((y : Int) == 0) = true := beq_iff_eq.2 (by omega)
        clear hbad h9
        go_wp2
        go_ret2
        exact ⟨by rw [H.out]; rfl, rfl⟩
    · have H : Hid (dec64 l = (val (l.take (c + 1)), c + 1) ∧ val (l.take (c + 1)) < 18446744073709551616) := dec64_good hc.out (fun h => by rw [← HY.out]; omega) (fun h => by rw [← HY.out]; omega)
      have hw3 : (c = 9 ∧ y = 1) ∨ c = 0 ∨ (0 < c ∧ c < 9 ∧ y ≠ 0) := by omega
      have H9 : Hid (c = 9 → y = 1) := fun h => by omega
      clear hbad
      rcases hw3 with hw3 | hw3 | hw3
      all_goals
        first
          | (have e9 : (((c : Int) + 1) == 10) = true := beq_iff_eq.2 (by omega)
             have hne : ((y : Int) != 1) = false := by rw [bne_eq_false_iff_eq]; omega
             have e1 : (1 : Int) < (c : Int) + 1 := by omega
             have e0 : ((y : Int) == 0) = false := beq_eq_false_iff_ne.2 (by omega))
          | (have e9 : (((c : Int) + 1) == 10) = false := beq_eq_false_iff_ne.2 (by omega)
             have e1 : ¬ (1 : Int) < (c : Int) + 1 := by omega)
          | (have e9 : (((c : Int) + 1) == 10) = false := beq_eq_false_iff_ne.2 (by omega)
             have e1 : (1 : Int) < (c : Int) + 1 := by omega
             have e0 : ((y : Int) == 0) = false := beq_eq_false_iff_ne.2 (by omega))
        clear hw3
        have ez : (((c : Int) + 1) == 0) = false := beq_eq_false_iff_ne.2 (by omega)
        go_wp2
        go_loop [5, 35] (fun u i => ∃ k : Nat, k ≤ c + 1 ∧ i = .int .i64 k ∧ u = .int .u64 (val (l.take k) : Nat)) (fun _ i => c + 1 - (intOf i).toNat)
        case atStart => exact ⟨0, Nat.zero_le _, rfl, rfl⟩
        case round =>
          obtain ⟨k, hk, rfl, rfl⟩ := hrel
          by_cases hlt : k < c + 1
          · have hkc := HCELL.out k (by omega)
            obtain ⟨x, hx⟩ : ∃ x, x = (l.getD k 0).toNat := ⟨_, rfl⟩
            rw [← hx] at hkc
            have hx256 : x < 256 := by rw [hx]; exact UInt8.toNat_lt _
            have HX := hide hx
            clear hx
            obtain ⟨z, hz⟩ : ∃ z, z = val (l.take k) := ⟨_, rfl⟩
            rw [← hz]
            have HZ := hide hz
            clear hz hck
            go_wp2
            go_round
            case rel =>
              refine ⟨k + 1, by omega, by go_num, ?_⟩
              rw [HZ.out, HX.out, or_step l k (by omega) (by omega) (fun h => ?_)]
              have hc9 : c = k := by omega
              rw [← hc9, ← HY.out, H9.out (by omega)]
              decide
            case measure => simp [intOf]; omega
          · go_wp2
            go_ret2
            have ek : k = c + 1 := by omega
            rw [H.out.1, ek]
            exact ⟨rfl, rfl⟩

set_option maxRecDepth 100000 in
set_option maxHeartbeats 400000 in
theorem get_any (v : Value) (l : List UInt8) (w : World) (hr : Rd w v l) :
    Calls Try.prog 72 #[v] w fun e w' => e = .returned (.tuple #[.int .i64 ((dec62 l).1 : Nat), .int .i64 ((dec62 l).2 : Nat)]) ∧ w' = w := by
  have HC := hide (groups_any v l w hr)
  have H : Hid (dec62 l = if (dec64 l).1 < 4611686018427387904 then dec64 l else (0, 0)) := rfl
  generalize dec64 l = d at *
  obtain ⟨u, k⟩ := d
  obtain ⟨U, hU⟩ : ∃ U : Int, U = (u : Int) := ⟨_, rfl⟩
  simp only at HC H
  rw [← hU] at HC
  have hU0 : 0 ≤ U := by omega
  have HU := hide hU
  clear hU
  by_cases hu : U < 4611686018427387904
  · go_enter Try.func72, Try.ntmps72
    go_wp2_with fail
    refine HC.out.mono ?_
    rintro e w' ⟨rfl, rfl⟩
    go_wp2
    go_ret2
    have e := H.out
    have eu := HU.out
    rw [if_pos (by omega)] at e
    rw [e]
    exact ⟨by rw [eu]; rfl, rfl⟩
  · go_enter Try.func72, Try.ntmps72
    go_wp2_with fail
    refine HC.out.mono ?_
    rintro e w' ⟨rfl, rfl⟩
    go_wp2
    go_ret2
    have e := H.out
    have eu := HU.out
    rw [if_neg (by omega)] at e
    rw [e]
    exact ⟨rfl, rfl⟩

set_option maxRecDepth 100000 in
set_option maxHeartbeats 400000 in
theorem getSigned_any (v : Value) (l : List UInt8) (w : World) (hr : Rd w v l) :
    Calls Try.prog 76 #[v] w fun e w' => e = .returned (.tuple #[.int .i64 (zag (dec64 l).1), .int .i64 ((dec64 l).2 : Nat)]) ∧ w' = w := by
  have HC := hide (groups_any v l w hr)
  have hlt := dec64_lt l
  have hle := dec64_le l
  generalize dec64 l = d at *
  obtain ⟨u, k⟩ := d
  simp only at HC hlt hle
  go_enter Try.func76, Try.ntmps76
  go_wp2_with fail
  refine HC.out.mono ?_
  rintro e w' ⟨rfl, rfl⟩
  go_wp2_with fail
  refine (zag_any u _ hlt).mono ?_
  rintro e w1 ⟨rfl, rfl⟩
  go_wp2
  go_ret2
  exact ⟨rfl, rfl⟩

end Go.Proofs.Ytgpdbboieokldaa

/- Contracts of lowest, Fixed32, Fixed64, Fixed. -/
namespace Go.Proofs.Ytgpdbboieokldaa
open Go.RowKit

theorem leBytes_snoc : ∀ (k v : Nat), Lib.leBytes (k + 1) v = Lib.leBytes k v ++ [(v / 256 ^ k % 256).toUInt8]
  | 0, v => by simp [Lib.leBytes]
  | k + 1, v => by
    have ih := leBytes_snoc k (v / 256)
    have e : v / 256 / 256 ^ k = v / 256 ^ (k + 1) := by rw [Nat.div_div_eq_div_mul, Nat.pow_succ, Nat.mul_comm]
    rw [Lib.leBytes, ih, e]
    simp [Lib.leBytes]

/-- What lies in the row of c bytes behind k rounds. -/
def leRow (c k v : Nat) : List UInt8 := Lib.leBytes k v ++ List.replicate (c - k) 0

theorem leRow_length (c k v : Nat) (h : k ≤ c) : (leRow c k v).length = c := by
  simp [leRow, Lib.leBytes_length]
  omega

theorem leRow_set (c k v : Nat) (h : k < c) : (Lib.byteCells (leRow c k v)).set k (.int .u8 ((v / 256 ^ k % 256 : Nat) : Int)) = Lib.byteCells (leRow c (k + 1) v) := by
  have e : c - k = (c - (k + 1)) + 1 := by omega
  unfold leRow
  rw [leBytes_snoc, e, List.replicate_succ]
  have hl : (Lib.byteCells (Lib.leBytes k v)).length = k := by rw [byteCells_length, Lib.leBytes_length]
  have h8 : ((v / 256 ^ k % 256).toUInt8).toNat = v / 256 ^ k % 256 := Lib.toUInt8_toNat (Nat.mod_lt _ (by decide))
  simp only [Lib.byteCells, List.map_append, List.map_cons, List.map_nil, h8] at hl ⊢
  rw [List.set_append_right _ _ (by omega), hl]
  simp

theorem pow8 (k : Nat) : 2 ^ (8 * k) = 256 ^ k := by rw [Nat.pow_mul]

theorem low_plain (v k : Nat) : ((v : Int) / 2 ^ (8 * k)) % 256 = ((v / 256 ^ k % 256 : Nat) : Int) := by
  rw [← pow8]
  simp

set_option maxRecDepth 100000 in
set_option maxHeartbeats 400000 in
theorem lowest_any (v c : Nat) (w : World) (hc : c ≤ 8) :
    Calls Try.prog 95 #[.int .u64 (v : Int), .int .i64 (c : Int)] w fun e w' => ∃ v', e = .returned v' ∧ Own w' w.heap.size v' (Lib.leBytes c v) ∧ Below w.heap.size w w' := by
  obtain ⟨i0, hi, hz0, hz1, hz2⟩ := info_parts info8
  go_enter Try.func95, Try.ntmps95
  go_wp2_with (at_make; refine wpList_make_full _ rfl _ _ 41 rfl w.heap.size 5 i0 (.int .u8 0) 1 Try.underlying41 hi hz0 hz1 _ _ _ _ c rfl rfl rfl rfl (by rw [hz2]; omega) (by unfold maxLen; omega) (Nat.le_refl _) ?_)
  intro w1 hown hgrow
  have hb1 : Below w.heap.size w w1 := (Below.refl _ _).grown hgrow (Nat.le_refl _) (fun k hk => by cases hk)
  have hown1 : w1.ownsRow w.heap.size 5 1 (.slice (some ⟨w.heap.size, 0, none⟩) c c) c (Lib.byteCells (leRow c 0 v)) := by
    have e : (madeCells #[Value.int .u8 0] c).toList = Lib.byteCells (leRow c 0 v) := by
      rw [toList_madeCells_one]
      simp [leRow, Lib.leBytes, Lib.byteCells]
    rw [← e]
    exact hown
  have HO := hide hown1
  have HB := hide hb1
  clear hown hown1 hb1 hgrow
  go_wp2
  go_loopw [11] (fun i wr => ∃ k : Nat, k ≤ c ∧ i = .int .i64 (k : Int) ∧ Hid (wr.ownsRow w.heap.size 5 1 (.slice (some ⟨w.heap.size, 0, none⟩) c c) c (Lib.byteCells (leRow c k v))) ∧ Hid (Below w.heap.size w wr)) (fun i _ => c - (intOf i).toNat)
  case atStart => exact ⟨0, Nat.zero_le _, rfl, HO, HB⟩
  case round =>
    obtain ⟨k, hk, rfl, ho, hb⟩ := hrel
    by_cases hlt : k < c
    · have hcell : wr.cell? ⟨w.heap.size, k, none⟩ = some (.int .u8 ((leRow c k v).getD k 0).toNat) := by
        rw [World.ownsRow.cellAt ho.out k (by omega), byteCells_get _ _ (by rw [leRow_length c k v hk]; exact hlt)]
      have hfr : wr.frozen? ⟨w.heap.size, k, none⟩ = false := World.ownsRow.frozenAt ho.out k
      go_wp2
      go_roundw
      case rel =>
        have hs := World.ownsRow.stored ho.out k (Value.int .u8 ((v / 256 ^ k % 256 : Nat) : Int))
        rw [leRow_set c k v hlt] at hs
        rw [low_plain]
        exact ⟨k + 1, by omega, by go_num, hs.1, hb.out.setCell (Nat.le_refl _) _⟩
      case measure => simp [intOf]; omega
    · go_wp2
      go_ret
      have e : k = c := by omega
      refine ⟨_, rfl, Own.mk' (l := Lib.leBytes c v) ho.out (by rw [Lib.leBytes_length]) ?_, hb.out⟩
      rw [e]
      simp [leRow]

set_option maxRecDepth 100000 in
theorem fixed32_any (v : Nat) (w : World) (h : v < 4294967296) :
    Calls Try.prog 66 #[.int .u32 (v : Int)] w fun e w' => ∃ v', e = .returned v' ∧ Own w' w.heap.size v' (Lib.leBytes 4 v) ∧ Below w.heap.size w w' := by
  have HC : Hid (Calls Try.prog 95 #[.int .u64 (v : Int), .int .i64 4] w fun e w' => ∃ v', e = .returned v' ∧ Own w' w.heap.size v' (Lib.leBytes 4 v) ∧ Below w.heap.size w w') := lowest_any v 4 w (by omega)
  obtain ⟨U, hU⟩ : ∃ U : Int, U = (v : Int) := ⟨_, rfl⟩
  have h0 : 0 ≤ U := by omega
  have h1 : U < 4294967296 := by omega
  rw [← hU] at HC ⊢
  clear hU h
  go_enter Try.func66, Try.ntmps66
  go_wp2_with fail
  refine HC.out.mono ?_
  rintro e w' ⟨v', rfl, ho, hb⟩
  have HO := hide ho
  have HB := hide hb
  clear ho hb HC
  go_wp2
  go_ret
  exact ⟨v', rfl, HO.out, HB.out⟩

theorem leNat_lt : ∀ l : List UInt8, Lib.leNat l < 256 ^ l.length
  | [] => by simp [Lib.leNat]
  | c :: r => by
    have h := leNat_lt r
    have hc := c.toNat_lt
    simp only [Lib.leNat, List.length_cons, Nat.pow_succ]
    omega

theorem leNat_snoc : ∀ (l : List UInt8) (c : UInt8), Lib.leNat (l ++ [c]) = Lib.leNat l + c.toNat * 256 ^ l.length
  | [], c => by simp [Lib.leNat]
  | d :: r, c => by
    have h := leNat_snoc r c
    simp only [List.cons_append, Lib.leNat, List.length_cons, Nat.pow_succ, h]
    rw [Nat.mul_add, ← Nat.mul_assoc, Nat.mul_comm 256 c.toNat, Nat.mul_assoc, Nat.mul_comm 256 (256 ^ r.length)]
    omega

theorem leNat_take (l : List UInt8) (k : Nat) (h : k < l.length) : Lib.leNat (l.take (k + 1)) = Lib.leNat (l.take k) + (l.getD k 0).toNat * 256 ^ k := by
  rw [take_snoc l k h, leNat_snoc, List.length_take, Nat.min_eq_left (by omega)]

theorem leNat_take_lt (l : List UInt8) (k : Nat) (h : k ≤ l.length) : Lib.leNat (l.take k) < 256 ^ k := by
  have := leNat_lt (l.take k)
  rwa [List.length_take, Nat.min_eq_left h] at this

theorem or_step8 (l : List UInt8) (k : Nat) (hk : k < l.length) (h8 : k < 8) :
    bits .or .u64 ((Lib.leNat (l.take k) : Nat) : Int) (IntKind.u64.wrap (((l.getD k 0).toNat : Int) * 2 ^ (8 * k))) = ((Lib.leNat (l.take (k + 1)) : Nat) : Int) := by
  have hv := leNat_take_lt l k (by omega)
  rw [leNat_take l k hk, ← pow8]
  rw [← pow8] at hv
  refine or_low (8 * k) _ _ (by omega) hv ?_
  have hp : 2 ^ (8 * k) ≤ 2 ^ 56 := Nat.pow_le_pow_right (by decide) (by omega)
  have hb := (l.getD k 0).toNat_lt
  have hm : (l.getD k 0).toNat ≤ 255 := by omega
  have := Nat.mul_le_mul hm hp
  have e56 : 255 * 2 ^ 56 < 18446744073709551616 := by decide
  omega

set_option maxRecDepth 100000 in
set_option maxHeartbeats 400000 in
theorem fixed_any (v : Value) (l : List UInt8) (w : World) (hr : Rd w v l) :
    Calls Try.prog 73 #[v] w fun e w' => e = .returned (.int .u64 (Lib.leNat (l.take 8) : Nat)) ∧ w' = w := by
  obtain ⟨ao, cap, rfl, hlc, hcm, hn0, hao⟩ := hr
  clear hn0
  have hml : (l.length : Int) ≤ 9223372036854775807 := by unfold maxLen at hcm; omega
  by_cases h10 : (l.length : Int) ≤ 8
  all_goals
    go_enter Try.func73, Try.ntmps73
    go_wp2
    go_loop [3, 8] (fun n i => ∃ k : Nat, i = .int .i64 k ∧ k ≤ 8 ∧ k ≤ l.length ∧ n = .int .u64 (Lib.leNat (l.take k) : Nat)) (fun _ i => 8 - (intOf i).toNat)
    case atStart => exact ⟨0, rfl, by omega, by omega, rfl⟩
    case round =>
      obtain ⟨k, rfl, hk10, hkl, rfl⟩ := hrel
      by_cases hlt : k < 8 ∧ k < l.length
      · obtain ⟨hlt, hlt'⟩ := hlt
        rcases hao with hao | ⟨b, off, rfl, hc⟩
        · subst hao; simp at hlt'
        · have hck := hc k hlt'
          have HS := hide (or_step8 l k hlt' hlt)
          have hy : (l.getD k 0).toNat < 256 := UInt8.toNat_lt _
          clear hc
          generalize (l.getD k 0).toNat = y at *
          generalize Lib.leNat (l.take k) = z at *
          go_wp2
          go_round
          case rel => exact ⟨k + 1, by go_num, by omega, by omega, by rw [HS.out]⟩
          case measure => simp [intOf]; omega
      · go_wp2
        go_ret
        refine ⟨ret_int ?_, rfl⟩
        by_cases e : k = 8
        · rw [e]
        · rw [List.take_of_length_le (by omega : l.length ≤ k), List.take_of_length_le (by omega : l.length ≤ 8)]

end Go.Proofs.Ytgpdbboieokldaa

/- awake answers true: the chapter's examples. It only makes memory of its own. -/
namespace Go.Proofs.Ytgpdbboieokldaa
open Go.RowKit

/-- Bytes as a string. -/
def bs (l : List UInt8) : ByteArray := ⟨l.toArray⟩

theorem bs_list (l : List UInt8) : (bs l).toList = l := ByteArray.toList_mk l

theorem bs_size (l : List UInt8) : (bs l).size = l.length := by simp [bs, ByteArray.size]

theorem bs_take (l : List UInt8) (n : Nat) : ((bs l).extract 0 n).toList = l.take n := by
  rw [ByteArray.toList_eq]
  simp [bs]

theorem bs_eq (a b : List UInt8) : ((bs a).toList == (bs b).toList) = (a == b) := by rw [bs_list, bs_list]

theorem Rd.str {w : World} {v : Value} {l : List UInt8} (h : Rd w v l) : (convert 41 9 v).run Try.prog w = .ok (.string (bs l)) w := by
  obtain ⟨ao, cap, rfl, _, _, hn, h⟩ := h
  cases ao with
  | none =>
    have hl : l = [] := List.eq_nil_of_length_eq_zero (by have := hn rfl; omega)
    subst hl
    exact run_convert_bytes_nil w 41 5 Try.underlying41 Try.underlying5 0 cap 9 Try.underlying9
  | some a =>
    have hl : (loadCells a l.length).run Try.prog w = .ok ((l.map fun c => (c.toNat : Int)).map (Value.int .u8)).toArray w := by
      have := run_loadCells_list (P := Try.prog) w a (Lib.byteCells l) (Rd.cells h a rfl)
      rw [byteCells_length] at this
      rw [this]
      simp [Lib.byteCells, Function.comp_def]
    rw [run_convert_bytes_string w 41 9 5 _ l.length cap Try.underlying41 Try.underlying5 Try.underlying9, run_bytesToString w _ l.length cap _ hl, foldl_push_bytes]
    have e : (List.map (fun n : Int => UInt8.ofNat n.toNat) (List.map (fun c : UInt8 => (c.toNat : Int)) l)) = l := by
      rw [List.map_map]
      conv => rhs; rw [← List.map_id l]
      apply List.map_congr_left
      intro c _
      simp
    rw [e]
    simp [bs, ByteArray.empty, ByteArray.emptyWithCapacity]
    rfl

theorem uvarint300 : Lib.uvarint 300 = [172, 2] := by
  rw [Lib.uvarint_big (by decide), Lib.uvarint_small (by decide)]
  decide

end Go.Proofs.Ytgpdbboieokldaa

/- Slices of bytes cut, and slices of slices of bytes: what one reads ('RdL'), what a call makes ('OwnL'). -/
namespace Go.Proofs.Ytgpdbboieokldaa
open Go.RowKit

/-- Bytes in the midst of what is read. -/
theorem Rd.mid {w : World} {ao : Option Addr} {n cap : Nat} {l : List UInt8} (h : Rd w (.slice ao n cap) l) (i j m : Nat) (hij : i ≤ j) (hj : j ≤ l.length) (hm : j ≤ m) (hmc : m ≤ cap) : Rd w (sliced ao i j m 1) ((l.drop i).take (j - i)) := by
  obtain ⟨ao', cap', hv, h1, h2, h3, h4⟩ := h
  simp only [Value.slice.injEq] at hv
  obtain ⟨rfl, rfl, rfl⟩ := hv
  have hlen : ((l.drop i).take (j - i)).length = j - i := by simp; omega
  unfold sliced
  by_cases hmi : m = i
  · rw [if_pos hmi]
    have e : j - i = 0 := by omega
    refine ⟨ao, m - i, by rw [hlen], by omega, by omega, fun hn => by have := h3 hn; omega, .inl ?_⟩
    rw [e]
    simp
  · rw [if_neg hmi]
    refine ⟨ao.map (·.add (i * 1)), m - i, by rw [hlen], by omega, by omega, fun hn => ?_, ?_⟩
    · have hn' : ao = none := by simpa using hn
      have := h3 hn'
      omega
    · rcases h4 with h4 | ⟨b, off, h5, h6⟩
      · exact .inl (by rw [h4]; simp)
      · refine .inr ⟨b, off + i, ?_, fun k hk => ?_⟩
        · rw [h5, Nat.mul_one, Option.map_some, Addr.add_lit]
        · rw [hlen] at hk
          rw [Nat.add_assoc, h6 (i + k) (by omega)]
          simp [List.getD, hk]

theorem elem_bytes : Try.prog.elem 41 = 5 := by kernel_rfl

theorem size_u8 (w : World) : (sizeOf 5).run Try.prog w = .ok 1 w := by
  obtain ⟨i0, hi, _, hz1, _⟩ := info_parts info8
  simp [sizeOf, typeInfo, hi, hz1]

theorem under_bytes : Try.prog.underlying 41 = some (.slice (Try.prog.elem 41)) := by rw [elem_bytes]; exact Try.underlying41

theorem run_cut_lh (w : World) (v : Value) (l : List UInt8) (hr : Rd w v l) (k k' : IntKind) (i j : Int) (h0 : 0 ≤ i) (h1 : i ≤ j) (h2 : j ≤ l.length) :
    ∃ v', (Instr.sliceAt 41 v (some (.int k i)) (some (.int k' j)) none).run Try.prog w = .ok v' w ∧ Rd w v' ((l.drop i.toNat).take (j.toNat - i.toNat)) := by
  have h := hr
  obtain ⟨ao, cap, rfl, hlc, _⟩ := hr
  refine ⟨sliced ao i.toNat j.toNat cap 1, ?_, h.mid i.toNat j.toNat cap (by omega) (by omega) (by omega) (Nat.le_refl _)⟩
  rw [run_sliceAt_slice w 41 _ _ _ _ under_bytes, run_slice_lh w 41 ao l.length cap under_bytes k k' i j h0 h1 (by omega), elem_bytes, size_u8]
  rfl

theorem run_cut_l (w : World) (v : Value) (l : List UInt8) (hr : Rd w v l) (k : IntKind) (i : Int) (h0 : 0 ≤ i) (h2 : i ≤ l.length) :
    ∃ v', (Instr.sliceAt 41 v (some (.int k i)) none none).run Try.prog w = .ok v' w ∧ Rd w v' (l.drop i.toNat) := by
  have h := hr
  obtain ⟨ao, cap, rfl, hlc, _⟩ := hr
  refine ⟨sliced ao i.toNat l.length cap 1, ?_, ?_⟩
  · rw [run_sliceAt_slice w 41 _ _ _ _ under_bytes, run_slice_l w 41 ao l.length cap under_bytes k i h0 (by omega), elem_bytes, size_u8]
    rfl
  · have := h.mid i.toNat l.length cap (by omega) (Nat.le_refl _) hlc (Nat.le_refl _)
    rw [List.take_of_length_le (by simp)] at this
    exact this

theorem run_cut_h (w : World) (v : Value) (l : List UInt8) (hr : Rd w v l) (k : IntKind) (j : Int) (h0 : 0 ≤ j) (h2 : j ≤ l.length) :
    ∃ v', (Instr.sliceAt 41 v none (some (.int k j)) none).run Try.prog w = .ok v' w ∧ Rd w v' (l.take j.toNat) := by
  have h := hr
  obtain ⟨ao, cap, rfl, hlc, _⟩ := hr
  refine ⟨sliced ao 0 j.toNat cap 1, ?_, ?_⟩
  · rw [run_sliceAt_slice w 41 _ _ _ _ under_bytes, run_slice_h w 41 ao l.length cap under_bytes k j h0 (by omega), elem_bytes, size_u8]
    rfl
  · have := h.mid 0 j.toNat cap (by omega) (by omega) (by omega) (Nat.le_refl _)
    simpa using this

theorem run_cut_lhm (w : World) (v : Value) (l : List UInt8) (hr : Rd w v l) (k k' k2 : IntKind) (i j m : Int) (h0 : 0 ≤ i) (h1 : i ≤ j) (h2 : j ≤ m) (h3 : m ≤ l.length) :
    ∃ v', (Instr.sliceAt 41 v (some (.int k i)) (some (.int k' j)) (some (.int k2 m))).run Try.prog w = .ok v' w ∧ Rd w v' ((l.drop i.toNat).take (j.toNat - i.toNat)) := by
  have h := hr
  obtain ⟨ao, cap, rfl, hlc, _⟩ := hr
  refine ⟨sliced ao i.toNat j.toNat m.toNat 1, ?_, h.mid i.toNat j.toNat m.toNat (by omega) (by omega) (by omega) (by omega)⟩
  rw [run_sliceAt_slice w 41 _ _ _ _ under_bytes, run_slice_lhm w 41 ao l.length cap under_bytes k k' k2 i j m h0 h1 h2 (by omega), elem_bytes, size_u8]
  rfl

theorem run_cut_hm (w : World) (v : Value) (l : List UInt8) (hr : Rd w v l) (k' k2 : IntKind) (j m : Int) (h1 : 0 ≤ j) (h2 : j ≤ m) (h3 : m ≤ l.length) :
    ∃ v', (Instr.sliceAt 41 v none (some (.int k' j)) (some (.int k2 m))).run Try.prog w = .ok v' w ∧ Rd w v' (l.take j.toNat) := by
  have h := hr
  obtain ⟨ao, cap, rfl, hlc, _⟩ := hr
  refine ⟨sliced ao 0 j.toNat m.toNat 1, ?_, ?_⟩
  · rw [run_sliceAt_slice w 41 _ _ _ _ under_bytes, run_slice_hm w 41 ao l.length cap under_bytes k' k2 j m h1 h2 (by omega), elem_bytes, size_u8]
    rfl
  · have := h.mid 0 j.toNat m.toNat (by omega) (by omega) (by omega) (by omega)
    simpa using this

/-- A cut, once one knows what it makes. -/
theorem wpList_cut (w : World) {ops : Array Oper} {rest : List Oper} {o : Oper} {a : Act} {Q : Exit → Act → World → Prop} (hgd : o.guard = none) (x : Operand) (lo hi mx : Option Operand)
    (ho : o.op = .slice 41 x lo hi mx) (l : List UInt8)
    (hrun : ∃ v', (Instr.sliceAt 41 (a.eval x) (lo.map a.eval) (hi.map a.eval) (mx.map a.eval)).run Try.prog w = .ok v' w ∧ Rd w v' l)
    (h : ∀ v', Rd w v' l → wpList Try.prog ops Q rest (a.put o.dst v') w) : wpList Try.prog ops Q (o :: rest) a w :=
  wpList_plain hgd fun _ hK => by
    obtain ⟨v', hrun, hr⟩ := hrun
    unfold Oper.wp execOp
    simp only [ho, hrun, Sem.run_bind, Sem.run_pure, Result.andThen_ok]
    exact hK _ _ (h v' hr)

end Go.Proofs.Ytgpdbboieokldaa

/- Slices of entries in memory: what one reads ('RdE'), what a call owns ('OwnE'), append onto them; snapshots ('SnV'). -/
namespace Go.Proofs.Ytgpdbboieokldaa
open Go.RowKit

def entV (e : Ent) : Value := .agg #[.int .i64 e.proc, .int .i64 e.seq, .int .i64 e.resp]

/-- An entry's cells. -/
def entC (e : Ent) : Array Value := #[.int .i64 e.proc, .int .i64 e.seq, .int .i64 e.resp]

def EntI (e : Ent) : Prop := I64 e.proc ∧ I64 e.seq ∧ I64 e.resp

/-- A box of an entry. -/
def Be (w : World) (b : Nat) (cs : Array Value) : Prop := w.heap[b]? = some (.cells cs 55 (0, 0))

theorem Be.lt {w : World} {b : Nat} {cs : Array Value} (h : Be w b cs) : b < w.heap.size := (Array.getElem?_eq_some_iff.1 h).1

theorem Be.below {w w' : World} {b B : Nat} {cs : Array Value} (h : Be w b cs) (hb : Below B w w') (hB : w.heap.size ≤ B) : Be w' b cs := (hb.block b (by have := h.lt; omega)).trans h

theorem Be.cell {w : World} {b : Nat} {cs : Array Value} (h : Be w b cs) (j : Nat) : w.cell? ⟨b, j, none⟩ = cs[j]? ∧ w.frozen? ⟨b, j, none⟩ = false := ⟨cell_of_row w b j _ _ _ h, frozen_of_row w b j _ _ h⟩

/-- An entry's three cells. -/
def EntAt (w : World) (b o : Nat) (e : Ent) : Prop :=
  w.cell? ⟨b, o, none⟩ = some (.int .i64 e.proc) ∧ w.cell? ⟨b, o + 1, none⟩ = some (.int .i64 e.seq) ∧ w.cell? ⟨b, o + 2, none⟩ = some (.int .i64 e.resp)

theorem EntAt.lt {w : World} {b o : Nat} {e : Ent} (h : EntAt w b o e) : b < w.heap.size := World.block_lt_of_cell? w ⟨b, o, none⟩ h.1

theorem EntAt.keep {w w' : World} {b o : Nat} {e : Ent} (h : EntAt w b o e) (hk : w'.heap[b]? = w.heap[b]?) : EntAt w' b o e := by
  have hc : ∀ i, w'.cell? ⟨b, i, none⟩ = w.cell? ⟨b, i, none⟩ := fun i => World.cell?_of_block (a := ⟨b, i, none⟩) hk
  unfold EntAt at h ⊢
  simp only [hc]
  exact h

/-- The slice value v reads, in the world w, as the entries l. -/
def RdE (w : World) (v : Value) (l : List Ent) : Prop :=
  ∃ ao cap, v = .slice ao l.length cap ∧ l.length ≤ cap ∧ cap ≤ maxLen ∧ (ao = none → cap = 0) ∧ (∀ e ∈ l, EntI e) ∧
    (l = [] ∨ ∃ b off, ao = some ⟨b, off, none⟩ ∧ ∀ j, j < l.length → EntAt w b (off + j * 3) (l.getD j zeroE))

theorem RdE.nil (w : World) : RdE w (.slice none 0 0) [] := ⟨none, 0, rfl, Nat.le_refl _, Nat.zero_le _, fun _ => rfl, (fun r h => by simp at h), .inl rfl⟩

theorem RdE.below {w w' : World} {v : Value} {l : List Ent} (h : RdE w v l) {B : Nat} (hb : Below B w w') (hB : w.heap.size ≤ B) : RdE w' v l := by
  obtain ⟨ao, cap, h1, h2, h3, hn, hw, h4⟩ := h
  refine ⟨ao, cap, h1, h2, h3, hn, hw, ?_⟩
  rcases h4 with h4 | ⟨b, off, h5, h6⟩
  · exact .inl h4
  · refine .inr ⟨b, off, h5, fun j hj => ?_⟩
    have h7 := h6 j hj
    exact h7.keep (hb.block b (by have := h7.lt; omega))

/-- The cells of entries. -/
def entCells : List Ent → List Value
  | [] => []
  | r :: t => (entC r).toList ++ entCells t

theorem entCells_length : ∀ l : List Ent, (entCells l).length = l.length * 3
  | [] => rfl
  | r :: t => by
    rw [entCells, List.length_append, entCells_length t, List.length_cons]
    simp [entC]
    omega

theorem entCells_app : ∀ a b : List Ent, entCells (a ++ b) = entCells a ++ entCells b
  | [], _ => rfl
  | r :: t, b => by rw [List.cons_append, entCells, entCells_app t b, entCells, List.append_assoc]

theorem entCells_get : ∀ (l : List Ent) (j k : Nat), j < l.length → k < 3 → (entCells l)[j * 3 + k]? = (entC (l.getD j zeroE))[k]?
  | r :: t, 0, k, _, hk => by
    rw [entCells, Nat.zero_mul, Nat.zero_add, List.getElem?_append_left (by simp [entC]; omega)]
    simp [List.getD]
  | r :: t, j + 1, k, hj, hk => by
    have e : (j + 1) * 3 + k = (entC r).toList.length + (j * 3 + k) := by simp [entC]; omega
    rw [entCells, e, List.getElem?_append_right (by omega), Nat.add_sub_cancel_left, entCells_get t j k (by simpa using hj) hk]
    simp [List.getD]

theorem entCells_one (l : List Ent) : ∀ u ∈ entCells l, u.oneCell' = true := by
  induction l with
  | nil => intro u hu; simp [entCells] at hu
  | cons r t ih =>
    intro u hu
    rw [entCells] at hu
    rcases List.mem_append.1 hu with h | h
    · simp [entC] at h
      rcases h with rfl | rfl | rfl <;> rfl
    · exact ih u h

/-- The slice value v lies at the head of a row of its own, from block B on, that holds the entries l. -/
def OwnE (w : World) (B : Nat) (v : Value) (l : List Ent) : Prop := w.ownsRow B 55 3 v l.length (entCells l)

theorem OwnE.nil (w : World) (B : Nat) : OwnE w B (.slice none 0 0) [] := World.ownsRow_nil w B 55 3

theorem OwnE.rd {w : World} {B : Nat} {v : Value} {l : List Ent} (h : OwnE w B v l) (hw : ∀ r ∈ l, EntI r) : RdE w v l := by
  rcases h.2 with ⟨hv, hn⟩ | ⟨g, cap, cur, hv, hb, hg, hnc, hcm, hcs, htake⟩
  · exact ⟨none, 0, by rw [hv, hn], by omega, Nat.zero_le _, fun _ => rfl, hw, .inl (List.eq_nil_of_length_eq_zero hn)⟩
  · refine ⟨some ⟨g, 0, none⟩, cap, hv, hnc, hcm, (fun e => by cases e), hw, .inr ⟨g, 0, rfl, fun j hj => ?_⟩⟩
    have hc : ∀ k u, k < 3 → (entC (l.getD j zeroE))[k]? = some u → w.cell? ⟨g, 0 + j * 3 + k, none⟩ = some u := fun k u hk hu => by
      have := World.ownsRow.cells h (g := g) (by rw [hv]; rfl) (j * 3 + k) u ((entCells_get l j k hj hk).trans hu)
      rw [Addr.add_lit] at this
      rw [Nat.add_assoc]
      exact this
    exact ⟨hc 0 _ (by decide) rfl, hc 1 _ (by decide) rfl, hc 2 _ (by decide) rfl⟩

theorem OwnE.below {w w' : World} {B B' : Nat} {v : Value} {l : List Ent} (h : OwnE w B v l) (hb : Below B' w w') (hB : w.heap.size ≤ B') : OwnE w' B v l := by
  obtain ⟨h1, h2⟩ := h
  refine ⟨h1, ?_⟩
  rcases h2 with h2 | ⟨g, cap, cur, hv, hbg, hg, r⟩
  · exact .inl h2
  · have hlt : g < w.heap.size := (Array.getElem?_eq_some_iff.1 hg).1
    exact .inr ⟨g, cap, cur, hv, hbg, by rw [hb.block g (by omega)]; exact hg, r⟩

theorem OwnE.mono {w : World} {B B' : Nat} {v : Value} {l : List Ent} (h : OwnE w B v l) (hB : B' ≤ B) : OwnE w B' v l := by
  obtain ⟨h1, h2⟩ := h
  refine ⟨h1, ?_⟩
  rcases h2 with h2 | ⟨g, cap, cur, hv, hb, r⟩
  · exact .inl h2
  · exact .inr ⟨g, cap, cur, hv, by omega, r⟩

theorem OwnE.shape {w : World} {B : Nat} {v : Value} {l : List Ent} (h : OwnE w B v l) : ∃ ao cap, v = .slice ao l.length cap := by
  rcases h.2 with ⟨hv, hn⟩ | ⟨g, cap, cur, hv, _⟩
  · exact ⟨none, 0, by rw [hv, hn]⟩
  · exact ⟨_, _, hv⟩

theorem RdE.shape {w : World} {v : Value} {l : List Ent} (h : RdE w v l) : ∃ ao cap, v = .slice ao l.length cap := by
  obtain ⟨ao, cap, hv, _⟩ := h
  exact ⟨ao, cap, hv⟩

theorem info_ent : (Try.prog.info? 55).map (fun i => (i.zero, i.size, i.bytes)) = some (some (.agg #[.int .i64 0, .int .i64 0, .int .i64 0]), 3, 24) := by kernel_rfl

/-- One more entry behind a row of one's own. -/
theorem run_append_ent (w : World) (ty : TypeId) (B : Nat) (v : Value) (l : List Ent) (h : OwnE w B v l) (r : Ent) (hlim : l.length ≤ 1000000) (hbase : B ≤ w.heap.size) :
    ∃ v' w', (Builtin.append_ #[25, 25] ty #[v, .slice (some ⟨w.heap.size, 0, none⟩) 1 1]).run Try.prog (w.alloc (.cells (entC r) 55)) = .ok v' w' ∧ OwnE w' B v' (l ++ [r]) ∧ Below B w w' := by
  obtain ⟨i0, hi, hz0, hz1, hz2⟩ := info_parts info_ent
  obtain ⟨v', w', hrun, ho, hg, _⟩ := run_append_own (P := Try.prog) (w.alloc (.cells (entC r) 55)) B 25 ty 55 i0 _ 3 24 Try.underlying25 hi hz0 hz1 hz2 rfl (by decide) v l.length (entCells l) (h.alloc _)
    ⟨w.heap.size, 0, none⟩ 1 1 (entCells [r]) (entCells_length [r]) (fun j u hj => by
      rw [Addr.add_lit, Nat.zero_add, cell_of_row _ w.heap.size j _ 55 (0, 0) (heap_alloc_new w _)]
      simpa [entCells] using hj) (entCells_one [r]) (by unfold maxLen; omega) (by omega) (by simp; omega)
  refine ⟨v', w', hrun, ?_, ?_⟩
  · unfold OwnE
    rw [List.length_append, entCells_app]
    exact ho
  · exact ((Below.refl _ _).alloc hbase _).grown hg (by simp; omega) (fun k hk => (World.ownsRow.lt h k hk).1)

theorem wpList_append_ent (w : World) {ops : Array Oper} {rest : List Oper} {o : Oper} {a : Act} {Q : Exit → Act → World → Prop} (hgd : o.guard = none) (s x : Operand)
    (ho : o.op = .call { callee := .builtin .append, args := #[s, x], argTypes := #[25, 25] })
    (B : Nat) (v : Value) (l : List Ent) (hs : a.eval s = v) (hown : OwnE w B v l) (r : Ent) (hx : a.eval x = .slice (some ⟨w.heap.size, 0, none⟩) 1 1)
    (hlim : l.length ≤ 1000000) (hbase : B ≤ w.heap.size)
    (h : ∀ v' w', OwnE w' B v' (l ++ [r]) → Below B w w' → wpList Try.prog ops Q rest (a.put o.dst v') w') : wpList Try.prog ops Q (o :: rest) a (w.alloc (.cells (entC r) 55)) :=
  wpList_plain hgd fun _ hK => by
    obtain ⟨v', w', hrun, h2, h3⟩ := run_append_ent w o.type B v l hown r hlim hbase
    unfold Oper.wp execOp
    simp only [ho, resolve, invoke, builtin, Sem.run_bind, Sem.run_pure, Result.andThen_ok, List.map_toArray, List.map_cons, List.map_nil, hs, hx, hrun]
    exact hK _ _ (h v' w' h2 h3)

/-- The value v is, in the world w, the snapshot s. -/
def SnV (w : World) (v : Value) (s : Snap) : Prop :=
  ∃ vl vt, v = .agg #[.int .i64 s.idx, .int .i64 s.st.kind, vl, .bool s.st.shut, .int .i64 s.st.eng, vt] ∧ RdI w vl s.st.L ∧ I64 s.st.kind ∧ I64 s.st.eng ∧ RdE w vt s.tab ∧ I64 s.idx

end Go.Proofs.Ytgpdbboieokldaa

/- Contracts of ferrymanref04: cut, find, without, with, pairs. -/
namespace Go.Proofs.Ytgpdbboieokldaa
open Go.RowKit

set_option maxRecDepth 100000 in
theorem refCut_any (n : Int) (w : World) : Calls Try.prog 90 #[.int .i64 n] w fun e w' => e = .returned (.int .i64 (cutZ n)) ∧ w' = w := by
  by_cases h1 : n < -1099511627776
  · have HE : Hid (cutZ n = -1099511627776) := if_pos h1
    go_enter Try.func90, Try.ntmps90
    go_wp2
    go_ret
    exact ⟨ret_i HE.out.symm, rfl⟩
  · by_cases h2 : 1099511627776 < n
    · have HE : Hid (cutZ n = 1099511627776) := by unfold cutZ; rw [if_neg h1, if_pos h2]; exact rfl
      go_enter Try.func90, Try.ntmps90
      go_wp2
      go_ret
      exact ⟨ret_i HE.out.symm, rfl⟩
    · have HE : Hid (cutZ n = n) := by unfold cutZ; rw [if_neg h1, if_neg h2]; exact rfl
      go_enter Try.func90, Try.ntmps90
      go_wp2
      go_ret
      exact ⟨ret_i HE.out.symm, rfl⟩

end Go.Proofs.Ytgpdbboieokldaa

/- Contract of ferrymanref04.pairs. -/
namespace Go.Proofs.Ytgpdbboieokldaa
open Go.RowKit

set_option maxRecDepth 100000 in
set_option maxHeartbeats 2000000 in
theorem refPairs_any (v : Value) (l : List Int) (least : Int) (w : World) (hr : RdI w v l) :
    Calls Try.prog 89 #[v, .int .i64 least] w fun e w' => e = .returned (.bool (decide (PairsOk least l))) ∧ Below w.heap.size w w' := by
  obtain ⟨ao, cap, rfl, hlc, hcm, hn0, hi, hao⟩ := hr
  clear hn0 hi
  have hml : (l.length : Int) ≤ 9223372036854775807 := by unfold maxLen at hcm; omega
  have HAO := hide' hao
  clear hao hlc hcm
  by_cases h2 : l.length % 2 = 0
  · have h2' : ((l.length : Int).tmod 2 != 0) = false := by
      rw [bne_eq_false_iff_eq, Int.tmod_eq_emod_of_nonneg (by omega)]
      omega
    by_cases h128 : (l.length : Int) ≤ 128
    · go_enter Try.func89, Try.ntmps89
      go_wp2
      go_loopw [5] (fun i wr => ∃ k : Nat, i = .int .i64 k ∧ k ≤ l.length ∧ k % 2 = 0 ∧ Hid (∀ j, j < k → j % 2 = 0 → PairAt least l j) ∧ Hid (Below w.heap.size w wr)) (fun i _ => l.length - (intOf i).toNat)
      case atStart => exact ⟨0, rfl, by omega, rfl, fun j hj => by omega, Below.refl _ _⟩
      case round =>
        obtain ⟨k, rfl, hkl, hk2, hall, hb⟩ := hrel
        by_cases hlt : k < l.length
        · rcases HAO.out with hao | ⟨b, off, rfl, hc⟩
          · subst hao; simp at hlt
          have hcc : ∀ j, j < l.length → wr.cell? ⟨b, off + j, none⟩ = some (.int .i64 (l.getD j 0)) := fun j hj => by
            rw [hb.out.cell (World.block_lt_of_cell? w ⟨b, off + j, none⟩ (hc j hj))]; exact hc j hj
          have hc0 := hcc k hlt
          have hc1 := hcc (k + 1) (by omega)
          have hc2 := hcc (k - 2) (by omega)
          have hbk : (k : Int) < (l.length : Int) := by omega
          have hbk1 : (k : Int) + 1 < (l.length : Int) := by omega
          have HP : Hid (PairAt least l k ↔ (0 ≤ l.getD k 0 ∧ l.getD k 0 ≤ 255 ∧ (0 < k → l.getD (k - 2) 0 < l.getD k 0) ∧ least ≤ l.getD (k + 1) 0 ∧ l.getD (k + 1) 0 ≤ 1099511627776)) := Iff.rfl
          clear hc hcc
          generalize l.getD k 0 = y at *
          generalize l.getD (k + 1) 0 = z at *
          generalize l.getD (k - 2) 0 = x at *
          have HBd : Hid (Below w.heap.size w wr.drew) := hb.out.drew
          go_upto_region 6 with fail
          go_cut [65] (fun c wc => c = .bool (decide (¬ PairAt least l k)) ∧ Hid (Below w.heap.size w wc))
          case first =>
            by_cases g1 : y < 0
            · go_quiet (fail)
              go_wp2
              go_meet
              refine ⟨congrArg Value.bool ?_, below_drewN hb.out _⟩
              exact (decide_eq_true (p := ¬ PairAt least l k) (fun h => by have := HP.out.1 h; omega)).symm
            have d1 : decide (y < 0) = false := decide_eq_false g1
            by_cases g2 : 255 < y
            · go_quiet (fail)
              go_wp2
              go_meet
              refine ⟨congrArg Value.bool ?_, below_drewN hb.out _⟩
              exact (decide_eq_true (p := ¬ PairAt least l k) (fun h => by have := HP.out.1 h; omega)).symm
            have d2 : decide (255 < y) = false := decide_eq_false g2
            by_cases g3 : 0 < k
            · have g3' : (0 : Int) < (k : Int) := by omega
              have e2 : (k : Int) - 2 = ((k - 2 : Nat) : Int) := by omega
              by_cases g4 : y ≤ x
              · go_quiet (fail)
                go_wp2
                go_meet
                refine ⟨congrArg Value.bool ?_, below_drewN hb.out _⟩
                exact (decide_eq_true (p := ¬ PairAt least l k) (fun h => by have := HP.out.1 h; omega)).symm
              have d4 : decide (y ≤ x) = false := decide_eq_false g4
              by_cases g5 : z < least
              · go_quiet (fail)
                go_wp2
                go_meet
                refine ⟨congrArg Value.bool ?_, below_drewN hb.out _⟩
                exact (decide_eq_true (p := ¬ PairAt least l k) (fun h => by have := HP.out.1 h; omega)).symm
              have d5 : decide (z < least) = false := decide_eq_false g5
              by_cases g6 : 1099511627776 < z
              · go_quiet (fail)
                go_wp2
                go_meet
                refine ⟨congrArg Value.bool ?_, below_drewN hb.out _⟩
                exact (decide_eq_true (p := ¬ PairAt least l k) (fun h => by have := HP.out.1 h; omega)).symm
              have d6 : decide (1099511627776 < z) = false := decide_eq_false g6
              go_quiet (fail)
              go_wp2
              go_meet
              refine ⟨congrArg Value.bool ?_, below_drewN hb.out _⟩
              exact (decide_eq_false (p := ¬ PairAt least l k) (fun h => h (HP.out.2 (by omega)))).symm
            · have d3 : decide ((0 : Int) < (k : Int)) = false := decide_eq_false (by omega)
              by_cases g5 : z < least
              · go_quiet (fail)
                go_wp2
                go_meet
                refine ⟨congrArg Value.bool ?_, below_drewN hb.out _⟩
                exact (decide_eq_true (p := ¬ PairAt least l k) (fun h => by have := HP.out.1 h; omega)).symm
              have d5 : decide (z < least) = false := decide_eq_false g5
              by_cases g6 : 1099511627776 < z
              · go_quiet (fail)
                go_wp2
                go_meet
                refine ⟨congrArg Value.bool ?_, below_drewN hb.out _⟩
                exact (decide_eq_true (p := ¬ PairAt least l k) (fun h => by have := HP.out.1 h; omega)).symm
              have d6 : decide (1099511627776 < z) = false := decide_eq_false g6
              go_quiet (fail)
              go_wp2
              go_meet
              refine ⟨congrArg Value.bool ?_, below_drewN hb.out _⟩
              exact (decide_eq_false (p := ¬ PairAt least l k) (fun h => h (HP.out.2 (by omega)))).symm
          case rest =>
          obtain ⟨rfl, HB6⟩ := hcut
          by_cases hP : PairAt least l k
          · have hd : decide (¬ PairAt least l k) = false := decide_eq_false (fun h => h hP)
            have HPP := hide' hP
            rw [hd]
            clear hP hd HP hc0 hc1 hc2
            go_wp2
            go_roundw
            case rel =>
              refine ⟨k + 2, by go_num, by omega, by omega, fun j hj h2j => ?_, HB6⟩
              by_cases e : j = k
              · rw [e]; exact HPP.out
              · exact hall.out j (by omega) h2j
            case measure => simp [intOf]; omega
          · have hd : decide (¬ PairAt least l k) = true := decide_eq_true hP
            have HPP := hide' hP
            rw [hd]
            clear hP hd HP hc0 hc1 hc2
            go_wp2
            go_ret
            exact ⟨ret_b (decide_eq_false (p := PairsOk least l) (fun h => HPP.out (h.2.2 k hlt hk2))).symm, HB6.out⟩
        · go_wp2
          go_ret
          exact ⟨ret_b (decide_eq_true (p := PairsOk least l) ⟨h2, by omega, fun j hj => hall.out j (by omega)⟩).symm, hb.out⟩
    · go_enter Try.func89, Try.ntmps89
      go_wp2
      go_ret
      exact ⟨ret_b (decide_eq_false (p := PairsOk least l) (fun h => by have := h.2.1; omega)).symm, Below.refl _ _⟩
  · have h2' : ((l.length : Int).tmod 2 != 0) = true := by
      rw [bne_iff_ne, Ne, Int.tmod_eq_emod_of_nonneg (by omega)]
      omega
    go_enter Try.func89, Try.ntmps89
    go_wp2
    go_ret
    exact ⟨ret_b (decide_eq_false (p := PairsOk least l) (fun h => h2 h.1)).symm, Below.refl _ _⟩

end Go.Proofs.Ytgpdbboieokldaa

/- Contracts of ferrymanref04: May. -/
namespace Go.Proofs.Ytgpdbboieokldaa
open Go.RowKit

set_option maxRecDepth 100000 in
set_option maxHeartbeats 2000000 in
theorem refMay_any (v : Value) (s : St) (w : World) (hs : StV w v s) :
    Calls Try.prog 57 #[v] w fun e w' => e = .returned (.bool (decide (MayS s))) ∧ Below w.heap.size w w' := by
  obtain ⟨vl, rfl, hr, _, _⟩ := hs
  have HR := hide' hr
  have HP := hide' (fun w1 least (h : RdI w1 vl s.L) => refPairs_any vl s.L least w1 h)
  have HBA : Hid (∀ o, Below w.heap.size w (w.alloc o)) := fun o => (Below.refl _ _).alloc (Nat.le_refl _) o
  obtain ⟨ao, cap, rfl, hlc, hcm, hn0, hi, hao⟩ := hr
  have hml : (s.L.length : Int) ≤ 9223372036854775807 := by unfold maxLen at hcm; omega
  have HAO := hide' hao
  have HI := hide' hi
  clear hao hlc hcm hi hn0
  have HM := hide' (may_bad1 (s := s))
  have HN := hide' (may_nums (s := s))
  obtain ⟨kind, l, shut, g⟩ := s
  simp only at *
  by_cases hbad : g < 0 ∨ 2 < g ∨ (shut = false ∧ g ≠ 0) ∨ kind < 0 ∨ 6 ≤ kind
  · have HF : Hid (decide (MayS ⟨kind, l, shut, g⟩) = false) := decide_eq_false (HM.out hbad)
    have hc : (g < 0) ∨ (0 ≤ g ∧ 2 < g) ∨ (0 ≤ g ∧ g ≤ 2 ∧ shut = false ∧ (g != 0) = true) ∨ (0 ≤ g ∧ g ≤ 2 ∧ (shut = false ∧ g = 0) ∧ kind < 0) ∨ (0 ≤ g ∧ g ≤ 2 ∧ shut = true ∧ kind < 0) ∨ (0 ≤ g ∧ g ≤ 2 ∧ (shut = false ∧ g = 0) ∧ 0 ≤ kind ∧ 6 ≤ kind) ∨ (0 ≤ g ∧ g ≤ 2 ∧ shut = true ∧ 0 ≤ kind ∧ 6 ≤ kind) := by
      cases shut <;> simp at hbad ⊢ <;> omega
    clear hbad HM HN HP HAO HR HI
    rcases hc with h | ⟨h1, h2⟩ | ⟨h1, h2, rfl, h3⟩ | ⟨h1, h2, ⟨rfl, rfl⟩, h3⟩ | ⟨h1, h2, rfl, h3⟩ | ⟨h1, h2, ⟨rfl, rfl⟩, h3, h4⟩ | ⟨h1, h2, rfl, h3, h4⟩
    all_goals
      go_enter Try.func57, Try.ntmps57
      go_wp2
      go_ret
      exact ⟨ret_b HF.out.symm, HBA.out _⟩
  · have HF : Hid (MayS ⟨kind, l, shut, g⟩ ↔ NumsOk kind l) := HN.out (by omega) (by omega) (fun h => by
      cases shut
      · simp at hbad; omega
      · simp at h) (by omega) (by omega)
    have hg : 0 ≤ g ∧ g ≤ 2 ∧ 0 ≤ kind ∧ kind < 6 := by omega
    have hc : (shut = false ∧ g = 0) ∨ shut = true := by
      cases shut <;> simp at hbad ⊢ <;> omega
    obtain ⟨h1, h2, h3, h4⟩ := hg
    clear hbad HM HN
    by_cases k4 : kind = 4
    · subst k4
      have HD : Hid (decide (MayS ⟨4, l, shut, g⟩) = decide (PairsOk (-1099511627776) l)) := by
        rw [decide_eq_decide]
        exact HF.out
      rcases hc with ⟨rfl, rfl⟩ | rfl
      all_goals
        go_enter Try.func57, Try.ntmps57
        go_wp2_with fail
        refine (HP.out _ _ (HR.out.below (HBA.out _) (Nat.le_refl _))).mono ?_
        rintro e w2 ⟨rfl, hb2⟩
        have HB2 := hide' ((HBA.out _).trans (hb2.mono (HBA.out _).size))
        clear hb2
        go_wp2
        go_ret
        exact ⟨ret_b HD.out.symm, HB2.out⟩
    · by_cases k5 : kind = 5
      · subst k5
        have HD : Hid (decide (MayS ⟨5, l, shut, g⟩) = decide (PairsOk 0 l)) := by
          rw [decide_eq_decide]
          exact HF.out
        rcases hc with ⟨rfl, rfl⟩ | rfl
        all_goals
          go_enter Try.func57, Try.ntmps57
          go_wp2_with fail
          refine (HP.out _ _ (HR.out.below (HBA.out _) (Nat.le_refl _))).mono ?_
          rintro e w2 ⟨rfl, hb2⟩
          have HB2 := hide' ((HBA.out _).trans (hb2.mono (HBA.out _).size))
          clear hb2
          go_wp2
          go_ret
          exact ⟨ret_b HD.out.symm, HB2.out⟩
      · have HFN : Hid (MayS ⟨kind, l, shut, g⟩ ↔ (l.length ≤ 64 ∧ (kind ≤ 1 → l.length = 1) ∧ InBounds l)) := by
          have h := HF.out
          unfold NumsOk at h
          rwa [if_neg k4, if_neg k5] at h
        have e4 : (kind == 4) = false := beq_eq_false_iff_ne.2 k4
        have e5 : (kind == 5) = false := beq_eq_false_iff_ne.2 k5
        clear k4 k5 HF HP
        by_cases hlen : (64 : Int) < l.length
        · have HD : Hid (decide (MayS ⟨kind, l, shut, g⟩) = false) := decide_eq_false (fun h => by have := (HFN.out.1 h).1; omega)
          rcases hc with ⟨rfl, rfl⟩ | rfl
          all_goals
            go_enter Try.func57, Try.ntmps57
            go_wp2
            go_ret
            exact ⟨ret_b HD.out.symm, HBA.out _⟩
        · by_cases hone : l.length = 1 ∨ 1 < kind
          · have HC : Hid (∀ n w, Calls Try.prog 90 #[.int .i64 n] w fun e w' => e = .returned (.int .i64 (cutZ n)) ∧ w' = w) := fun n w => refCut_any n w
            have h1c : ((l.length : Int) != 1) = false ∨ (((l.length : Int) != 1) = true ∧ 1 < kind) := by
              by_cases e : l.length = 1
              · left
                rw [bne_eq_false_iff_eq]
                omega
              · right
                refine ⟨?_, by omega⟩
                rw [bne_iff_ne]
                omega
            have HON := hide' hone
            clear hone
            rcases h1c with h1c | ⟨h1c, h1d⟩
            all_goals
              rcases hc with ⟨rfl, rfl⟩ | rfl
              all_goals
                go_enter Try.func57, Try.ntmps57
                go_wp2
                go_loopw [3] (fun i wr => ∃ k : Nat, i = .int .i64 k ∧ k ≤ l.length ∧ Hid (∀ j, j < k → -1099511627776 ≤ l.getD j 0 ∧ l.getD j 0 ≤ 1099511627776) ∧ Hid (wr.cell? ⟨w.heap.size, 1, none⟩ = some (.slice ao l.length cap)) ∧ Hid (Below w.heap.size w wr)) (fun i _ => l.length - (intOf i).toNat)
                case atStart => exact ⟨0, rfl, by omega, fun j hj => by omega, cell_of_row _ w.heap.size 1 _ _ (0, 0) (heap_alloc_new w _), HBA.out _⟩
                case round =>
                  obtain ⟨k, rfl, hkl, hall, hbox, hb⟩ := hrel
                  have hbx := hbox.out
                  by_cases hlt : k < l.length
                  · rcases HAO.out with hao | ⟨b, off, rfl, hc⟩
                    · subst hao; simp at hlt
                    have hc0 : wr.cell? ⟨b, off + k, none⟩ = some (.int .i64 (l.getD k 0)) := by
                      rw [hb.out.cell (World.block_lt_of_cell? w ⟨b, off + k, none⟩ (hc k hlt))]; exact hc k hlt
                    have HCE := hide' (cutZ_eq (l.getD k 0))
                    obtain ⟨y, hy⟩ : ∃ y, y = l.getD k 0 := ⟨_, rfl⟩
                    rw [← hy] at hc0 HCE
                    have HY := hide' hy
                    clear hc hy
                    by_cases hq : y = cutZ y
                    · have hqb : (y != cutZ y) = false := by rw [bne_eq_false_iff_eq]; exact hq
                      have HQ := hide' (HCE.out.1 hq)
                      clear hq
                      go_wp2
                      go_quiet ((go_at_call 90; exact Calls.quiet_of_same (HC.out _ _)))
                      go_wp2
                      go_roundw
                      case rel =>
                        refine ⟨k + 1, by go_num, by omega, fun j hj => ?_, hbx, below_drewN hb.out _⟩
                        by_cases e : j = k
                        · rw [e, ← HY.out]; exact HQ.out
                        · exact hall.out j (by omega)
                      case measure => simp [intOf]; omega
                    · have hqb : (y != cutZ y) = true := by rw [bne_iff_ne]; exact hq
                      have HQ : Hid (¬ (-1099511627776 ≤ y ∧ y ≤ 1099511627776)) := fun h => hq (HCE.out.2 h)
                      clear hq
                      go_wp2
                      go_quiet ((go_at_call 90; exact Calls.quiet_of_same (HC.out _ _)))
                      go_wp2
                      go_ret
                      refine ⟨ret_b (decide_eq_false (fun h => HQ.out ?_)).symm, below_drewN hb.out _⟩
                      have := (HFN.out.1 h).2.2 k hlt
                      rwa [← HY.out] at this
                  · go_wp2
                    go_ret
                    refine ⟨ret_b (decide_eq_true (HFN.out.2 ⟨by omega, fun h => ?_, fun j hj => hall.out j (by omega)⟩)).symm, hb.out⟩
                    rcases HON.out with h' | h'
                    · exact h'
                    · omega
          · have hk1 : kind ≤ 1 := by omega
            have h1c : ((l.length : Int) != 1) = true := by rw [bne_iff_ne]; omega
            have HD : Hid (decide (MayS ⟨kind, l, shut, g⟩) = false) := decide_eq_false (fun h => by have := (HFN.out.1 h).2.1; omega)
            clear hone
            rcases hc with ⟨rfl, rfl⟩ | rfl
            all_goals
              go_enter Try.func57, Try.ntmps57
              go_wp2
              go_ret
              exact ⟨ret_b HD.out.symm, HBA.out _⟩

end Go.Proofs.Ytgpdbboieokldaa

/- Contract of ferrymanref04: Fits. -/
namespace Go.Proofs.Ytgpdbboieokldaa
open Go.RowKit

end Go.Proofs.Ytgpdbboieokldaa

/- Contracts of ferrymanref04: Fits, Same. -/
namespace Go.Proofs.Ytgpdbboieokldaa
open Go.RowKit

set_option maxRecDepth 100000 in
set_option maxHeartbeats 2000000 in
theorem refSameS_any (va : Value) (a : St) (vb : Value) (b : St) (w : World) (ha : StV w va a) (hb : StV w vb b) :
    Calls Try.prog 35 #[va, vb] w fun e w' => e = .returned (.bool (decide (SameS a b))) ∧ Below w.heap.size w w' := by
  obtain ⟨vla, rfl, hra, _, _⟩ := ha
  obtain ⟨vlb, rfl, hrb, _, _⟩ := hb
  have HBA : Hid (∀ x y, Below w.heap.size w ((w.alloc x).alloc y)) := fun x y => ((Below.refl _ _).alloc (Nat.le_refl _) x).alloc (by simp) y
  obtain ⟨ao, cap, rfl, hlc, hcm, hn0, hi, hao⟩ := hra
  obtain ⟨bo, bcap, rfl, hlc', hcm', hn0', hi', hbo⟩ := hrb
  have hml : (a.L.length : Int) ≤ 9223372036854775807 := by unfold maxLen at hcm; omega
  have HAO := hide' hao
  have HBO := hide' hbo
  clear hao hbo hlc hcm hlc' hcm' hi hi' hn0 hn0'
  have HDF : Hid (SameS a b ↔ a.kind = b.kind ∧ a.shut = b.shut ∧ a.eng = b.eng ∧ a.L = b.L) := Iff.rfl
  obtain ⟨ka, la, sa, ga⟩ := a
  obtain ⟨kb, lb, sb, gb⟩ := b
  simp only at *
  have hc : ((ka != kb) = true) ∨ ((ka != kb) = false ∧ (sa != sb) = true) ∨ ((ka != kb) = false ∧ (sa != sb) = false ∧ (ga != gb) = true) ∨ ((ka != kb) = false ∧ (sa != sb) = false ∧ (ga != gb) = false ∧ ((la.length : Int) != (lb.length : Int)) = true) ∨ ((ka != kb) = false ∧ (sa != sb) = false ∧ (ga != gb) = false ∧ ((la.length : Int) != (lb.length : Int)) = false) := by
    cases (ka != kb) <;> cases (sa != sb) <;> cases (ga != gb) <;> cases ((la.length : Int) != (lb.length : Int)) <;> simp
  rcases hc with h1 | ⟨h1, h2⟩ | ⟨h1, h2, h3⟩ | ⟨h1, h2, h3, h4⟩ | ⟨h1, h2, h3, h4⟩
  · have HD : Hid (decide (SameS ⟨ka, la, sa, ga⟩ ⟨kb, lb, sb, gb⟩) = false) := decide_eq_false (fun h => by rw [bne_iff_ne] at h1; exact h1 (HDF.out.1 h).1)
    go_enter Try.func35, Try.ntmps35
    go_wp2
    go_ret
    exact ⟨ret_b HD.out.symm, HBA.out _ _⟩
  · have HD : Hid (decide (SameS ⟨ka, la, sa, ga⟩ ⟨kb, lb, sb, gb⟩) = false) := decide_eq_false (fun h => by rw [bne_iff_ne] at h2; exact h2 (HDF.out.1 h).2.1)
    have h2' : (sa = true ∧ sb = false) ∨ (sa = false ∧ sb = true) := by
      cases sa <;> cases sb <;> simp at h2 ⊢
    clear h2
    rcases h2' with ⟨rfl, rfl⟩ | ⟨rfl, rfl⟩
    all_goals
      go_enter Try.func35, Try.ntmps35
      go_wp2
      go_ret
      exact ⟨ret_b HD.out.symm, HBA.out _ _⟩
  · have HD : Hid (decide (SameS ⟨ka, la, sa, ga⟩ ⟨kb, lb, sb, gb⟩) = false) := decide_eq_false (fun h => by rw [bne_iff_ne] at h3; exact h3 (HDF.out.1 h).2.2.1)
    obtain rfl : sa = sb := by simpa using h2
    clear h2
    cases sa
    all_goals
      go_enter Try.func35, Try.ntmps35
      go_wp2
      go_ret
      exact ⟨ret_b HD.out.symm, HBA.out _ _⟩
  · have HD : Hid (decide (SameS ⟨ka, la, sa, ga⟩ ⟨kb, lb, sb, gb⟩) = false) := decide_eq_false (fun h => by rw [bne_iff_ne] at h4; exact h4 (by rw [(HDF.out.1 h).2.2.2]))
    obtain rfl : sa = sb := by simpa using h2
    clear h2
    cases sa
    all_goals
      go_enter Try.func35, Try.ntmps35
      go_wp2
      go_ret
      exact ⟨ret_b HD.out.symm, HBA.out _ _⟩
  · have HE : Hid (ka = kb ∧ sa = sb ∧ ga = gb ∧ la.length = lb.length) := by
      rw [bne_eq_false_iff_eq] at h1 h2 h3 h4
      exact ⟨h1, h2, h3, by omega⟩
    obtain rfl : sa = sb := HE.out.2.1
    clear h2
    go_enter Try.func35, Try.ntmps35
    go_wp2
    go_loopw [5] (fun i wr => ∃ k : Nat, i = .int .i64 k ∧ k ≤ la.length ∧ Hid (∀ j, j < k → la.getD j 0 = lb.getD j 0) ∧ Hid (wr.cell? ⟨w.heap.size, 1, none⟩ = some (.slice ao la.length cap)) ∧ Hid (wr.cell? ⟨w.heap.size + 1, 1, none⟩ = some (.slice bo lb.length bcap)) ∧ Hid (Below w.heap.size w wr)) (fun i _ => la.length - (intOf i).toNat)
    case atStart =>
      refine ⟨0, rfl, by omega, fun j hj => by omega, ?_, ?_, HBA.out _ _⟩
      · show World.cell? _ _ = _
        simp
      · show World.cell? _ _ = _
        simp
    case round =>
      obtain ⟨k, rfl, hkl, hall, hbox, hbox2, hb⟩ := hrel
      have hbx := hbox.out
      have hbx2 := hbox2.out
      by_cases hlt : k < la.length
      · rcases HAO.out with hao | ⟨b1, o1, rfl, hc1⟩
        · subst hao; simp at hlt
        rcases HBO.out with hao | ⟨b2, o2, rfl, hc2⟩
        · have e0 : lb.length = 0 := by rw [hao]; rfl
          have := HE.out.2.2.2
          omega
        have hc0 : wr.cell? ⟨b1, o1 + k, none⟩ = some (.int .i64 (la.getD k 0)) := by
          rw [hb.out.cell (World.block_lt_of_cell? w ⟨b1, o1 + k, none⟩ (hc1 k hlt))]; exact hc1 k hlt
        have hc0' : wr.cell? ⟨b2, o2 + k, none⟩ = some (.int .i64 (lb.getD k 0)) := by
          rw [hb.out.cell (World.block_lt_of_cell? w ⟨b2, o2 + k, none⟩ (hc2 k (by have := HE.out.2.2.2; omega)))]; exact hc2 k (by have := HE.out.2.2.2; omega)
        obtain ⟨y, hy⟩ : ∃ y, y = la.getD k 0 := ⟨_, rfl⟩
        obtain ⟨z, hz⟩ : ∃ z, z = lb.getD k 0 := ⟨_, rfl⟩
        rw [← hy] at hc0
        rw [← hz] at hc0'
        have HY := hide' hy
        have HZ := hide' hz
        have hlb : (k : Int) < (lb.length : Int) := by have := HE.out.2.2.2; omega
        clear hc1 hc2 hy hz
        by_cases hq : y = z
        · have hqb : (y != z) = false := by rw [bne_eq_false_iff_eq]; exact hq
          have HQ := hide' hq
          clear hq
          go_wp2
          go_quiet (fail)
          go_wp2
          go_roundw
          case rel =>
            refine ⟨k + 1, by go_num, by omega, fun j hj => ?_, hbx, hbx2, below_drewN hb.out _⟩
            by_cases e : j = k
            · rw [e, ← HY.out, ← HZ.out]; exact HQ.out
            · exact hall.out j (by omega)
          case measure => simp [intOf]; omega
        · have hqb : (y != z) = true := by rw [bne_iff_ne]; exact hq
          have HQ := hide' hq
          clear hq
          go_wp2
          go_quiet (fail)
          go_wp2
          go_ret
          refine ⟨ret_b (decide_eq_false (fun h => HQ.out ?_)).symm, below_drewN hb.out _⟩
          rw [HY.out, HZ.out, (HDF.out.1 h).2.2.2]
      · go_wp2
        go_ret
        refine ⟨ret_b (decide_eq_true (HDF.out.2 ⟨HE.out.1, HE.out.2.1, HE.out.2.2.1, getD_ext_int la lb HE.out.2.2.2 (fun j hj => hall.out j (by omega))⟩)).symm, hb.out⟩

end Go.Proofs.Ytgpdbboieokldaa

/- Contracts of ferrymanref09: Table, May, Same. -/
namespace Go.Proofs.Ytgpdbboieokldaa
open Go.RowKit

set_option maxRecDepth 100000 in
set_option maxHeartbeats 4000000 in
theorem refTable_any (v : Value) (l : List Ent) (w : World) (hr : RdE w v l) :
    Calls Try.prog 58 #[v] w fun e w' => e = .returned (.bool (decide (TabOk l))) ∧ Below w.heap.size w w' := by
  obtain ⟨ao, cap, rfl, hlc, hcm, -, -, hao⟩ := hr
  have hml : (l.length : Int) ≤ 9223372036854775807 := by unfold maxLen at hcm; omega
  have HAO := hide hao
  clear hao hlc hcm
  obtain ⟨D, hD⟩ : ∃ D, D = decide (TabOk l) := ⟨_, rfl⟩
  rw [← hD]
  have HDT : Hid (TabTo l l.length → D = true) := fun h => by rw [hD]; exact decide_eq_true h
  have HDF : Hid (∀ k, k ≤ l.length → ¬ TabTo l k → D = false) := fun k hk h => by rw [hD]; exact decide_eq_false (fun hf => h (TabTo.mono hf hk))
  have HP0 := hide (TabTo.zero l)
  clear hD
  go_enter Try.func58, Try.ntmps58
  go_wp2
  go_loopw [3] (fun vi wr => ∃ k : Nat, vi = .int .i64 (k : Int) ∧ k ≤ l.length ∧ Hid (TabTo l k) ∧ Hid (Below w.heap.size w wr)) (fun vi _ => l.length - (intOf vi).toNat)
  case atStart => exact ⟨0, rfl, Nat.zero_le _, HP0, Below.refl _ _⟩
  case round =>
    obtain ⟨k, rfl, hk, hP, hB⟩ := hrel
    by_cases hlt : k < l.length
    case neg =>
      obtain rfl : k = l.length := by omega
      have HT := hide (HDT.out hP.out)
      go_wp2
      go_ret
      rw [HT.out]
      exact ⟨rfl, hB.out⟩
    rcases HAO.out with h0 | ⟨c, off, rfl, hc⟩
    · rw [h0] at hlt; simp at hlt
    have hck := hc k hlt
    have hkc := hck.keep (hB.out.block c hck.lt)
    have hne1 : c ≠ wr.heap.size := by have := hkc.lt; omega
    obtain ⟨c0, c1, c2⟩ := hkc
    have HPN := hide (TabTo.next (t := l) (k := k))
    have HPV : Hid (0 < k → EntAt wr c (off + (k - 1) * 3) (l.getD (k - 1) zeroE)) := hide (fun h => (hc (k - 1) (by omega)).keep (hB.out.block c (hc (k - 1) (by omega)).lt))
    have HBA : Hid (∀ X, Below w.heap.size w (wr.alloc X)) := fun X => hB.out.alloc hB.out.size X
    have HDK : Hid (¬ TabTo l (k + 1) → D = false) := hide (HDF.out (k + 1) (by omega))
    have HX : Hid (∀ cs, Be (wr.alloc (.cells cs 55)) wr.heap.size cs) := fun cs => heap_alloc_new wr _
    obtain ⟨r, hr⟩ : ∃ r, r = l.getD k zeroE := ⟨_, rfl⟩
    rw [← hr] at HPN c0 c1 c2
    clear hc hck hr HDF
    obtain ⟨P, S, X⟩ := r
    dsimp only at HPN c0 c1 c2
    unfold EntOk at HPN
    dsimp only at HPN
    by_cases hp0 : P < 0
    · have HD := hide (HDK.out (fun h => by have := (HPN.out.1 h).2.1; omega))
      clear HPN HDK
      go_upto_region 5 with fail
      go_quiet (fail)
      go_wp2
      go_ret
      rw [HD.out]
      exact ⟨rfl, below_drewN (HBA.out _) _⟩
    have hp0d : decide (P < 0) = false := decide_eq_false hp0
    by_cases hp1 : 64 < P
    · have HD := hide (HDK.out (fun h => by have := (HPN.out.1 h).2.1; omega))
      clear HPN HDK
      go_upto_region 5 with fail
      go_quiet (fail)
      go_wp2
      go_ret
      rw [HD.out]
      exact ⟨rfl, below_drewN (HBA.out _) _⟩
    have hp1d : decide (64 < P) = false := decide_eq_false hp1
    by_cases hs0 : S < 0
    · have HD := hide (HDK.out (fun h => by have := (HPN.out.1 h).2.1; omega))
      clear HPN HDK
      go_upto_region 5 with fail
      go_quiet (fail)
      go_wp2
      go_ret
      rw [HD.out]
      exact ⟨rfl, below_drewN (HBA.out _) _⟩
    have hs0d : decide (S < 0) = false := decide_eq_false hs0
    by_cases hs1 : 4611686018427387904 ≤ S
    · have HD := hide (HDK.out (fun h => by have := (HPN.out.1 h).2.1; omega))
      clear HPN HDK
      go_upto_region 5 with fail
      go_quiet (fail)
      go_wp2
      go_ret
      rw [HD.out]
      exact ⟨rfl, below_drewN (HBA.out _) _⟩
    have hs1d : decide (4611686018427387904 ≤ S) = false := decide_eq_false hs1
    by_cases hx0 : X < -1125899906842624
    · have HD := hide (HDK.out (fun h => by have := (HPN.out.1 h).2.1; omega))
      clear HPN HDK
      go_upto_region 5 with fail
      go_quiet (fail)
      go_wp2
      go_ret
      rw [HD.out]
      exact ⟨rfl, below_drewN (HBA.out _) _⟩
    have hx0d : decide (X < -1125899906842624) = false := decide_eq_false hx0
    by_cases hx1 : 1125899906842624 < X
    · have HD := hide (HDK.out (fun h => by have := (HPN.out.1 h).2.1; omega))
      clear HPN HDK
      go_upto_region 5 with fail
      go_quiet (fail)
      go_wp2
      go_ret
      rw [HD.out]
      exact ⟨rfl, below_drewN (HBA.out _) _⟩
    have hx1d : decide (1125899906842624 < X) = false := decide_eq_false hx1
    have HEO : Hid (0 ≤ P ∧ P ≤ 64 ∧ 0 ≤ S ∧ S < 4611686018427387904 ∧ -1125899906842624 ≤ X ∧ X ≤ 1125899906842624) := hide ⟨by omega, by omega, by omega, by omega, by omega, by omega⟩
    clear hp0 hp1 hs0 hs1 hx0 hx1
    by_cases hk0 : k = 0
    · have HP1 := hide (HPN.out.2 ⟨hP.out, HEO.out, fun h => absurd h (by omega)⟩)
      have hkd : decide (0 < k) = false := decide_eq_false (by omega)
      have hki : decide ((0 : Int) < (k : Int)) = false := decide_eq_false (by omega)
      clear HPN HDK HPV hk0
      go_upto_region 5 with fail
      go_quiet (fail)
      go_wp2
      go_roundw
      case rel => exact ⟨k + 1, by go_num, by omega, HP1, below_drewN (HBA.out _) _⟩
      case measure => simp [intOf]; omega
    · obtain ⟨q, rfl⟩ : ∃ q, k = q + 1 := ⟨k - 1, by omega⟩
      clear hk0
      have hpw := HPV.out (by omega)
      have hpv : ∀ X, (wr.alloc X).cell? ⟨c, off + (q + 1 - 1) * 3, none⟩ = some (.int .i64 (l.getD (q + 1 - 1) zeroE).proc) := fun X => (hpw.keep (Below.heap_alloc _ _ _ hpw.lt)).1
      clear hpw
      rw [Nat.add_sub_cancel] at hpv HPN
      have hqi : ((q + 1 : Nat) : Int) - 1 = (q : Int) := by omega
      have hql : (q : Int) < (l.length : Int) := by omega
      have hq0 : (0 : Int) < ((q + 1 : Nat) : Int) := by omega
      clear HPV
      generalize (l.getD q zeroE).proc = P0 at *
      by_cases hge : P ≤ P0
      · have HD := hide (HDK.out (fun h => by have := (HPN.out.1 h).2.2 (by omega); omega))
        clear HPN HDK
        go_upto_region 5 with fail
        go_quiet (fail)
        go_wp2
        go_ret
        rw [HD.out]
        exact ⟨rfl, below_drewN (HBA.out _) _⟩
      · have hged : decide (P ≤ P0) = false := decide_eq_false hge
        have HP1 := hide (HPN.out.2 ⟨hP.out, HEO.out, fun _ => by omega⟩)
        clear HPN HDK hge
        go_upto_region 5 with fail
        go_quiet (fail)
        go_wp2
        go_roundw
        case rel => exact ⟨q + 1 + 1, by go_num, by omega, HP1, below_drewN (HBA.out _) _⟩
        case measure => simp [intOf]; omega

end Go.Proofs.Ytgpdbboieokldaa

/- Entries held against each other, number by number. -/
namespace Go.Proofs.Ytgpdbboieokldaa
open Go.RowKit

/-- Two entries, number by number. -/
def eqEnt (r s : Ent) : Bool := r.proc == s.proc && r.seq == s.seq && r.resp == s.resp

theorem eql_ent (w : World) (r s : Ent) : (binOp .eql 55 (.agg #[.int .i64 r.proc, .int .i64 r.seq, .int .i64 r.resp]) (.agg #[.int .i64 s.proc, .int .i64 s.seq, .int .i64 s.resp])).run Try.prog w = .ok (.bool (eqEnt r s)) w := by
  have u3 := Try.underlying3
  have a3 := Try.isAgg3
  have z3 := Try.sizeOf3
  have hS : Try.prog.underlying 55 = some (.struct (Try.prog.fieldsOf 55)) := by kernel_rfl
  have hp : Try.prog.stoodInHeld 55 = false := by kernel_rfl
  unfold eqEnt
  rw [run_eql_struct, show (10000 : Nat) = 9999 + 1 from rfl, run_equalIn_agg w 9999 55 _ _ hS hp]
  simp only [Program.fieldsOf, Try.underlying55]
  go_simp
  repeat' split
  all_goals simp_all

theorem neq_ent (w : World) (r s : Ent) : (binOp .neq 55 (.agg #[.int .i64 r.proc, .int .i64 r.seq, .int .i64 r.resp]) (.agg #[.int .i64 s.proc, .int .i64 s.seq, .int .i64 s.resp])).run Try.prog w = .ok (.bool (!eqEnt r s)) w := by
  have u3 := Try.underlying3
  have a3 := Try.isAgg3
  have z3 := Try.sizeOf3
  have hS : Try.prog.underlying 55 = some (.struct (Try.prog.fieldsOf 55)) := by kernel_rfl
  have hp : Try.prog.stoodInHeld 55 = false := by kernel_rfl
  unfold eqEnt
  rw [run_neq_struct, show (10000 : Nat) = 9999 + 1 from rfl, run_equalIn_agg w 9999 55 _ _ hS hp]
  simp only [Program.fieldsOf, Try.underlying55]
  go_simp
  repeat' split
  all_goals simp_all

theorem guard_ent : Try.prog.eqGuardType Try.prog.depth 55 = false := by kernel_rfl

theorem eqEnt_iff (r s : Ent) : eqEnt r s = true ↔ r = s := by
  obtain ⟨i, p, q⟩ := r
  obtain ⟨i', p', q'⟩ := s
  simp [eqEnt]
  constructor
  · rintro ⟨⟨rfl, rfl⟩, rfl⟩
    simp
  · rintro ⟨rfl, rfl, rfl⟩
    simp

theorem eqEnt_self (r : Ent) : eqEnt r r = true := (eqEnt_iff r r).2 rfl

theorem eqEnt_not {r s : Ent} (h : r ≠ s) : eqEnt r s = false := by
  cases hq : eqEnt r s
  · rfl
  · exact absurd ((eqEnt_iff _ _).1 hq) h

end Go.Proofs.Ytgpdbboieokldaa

