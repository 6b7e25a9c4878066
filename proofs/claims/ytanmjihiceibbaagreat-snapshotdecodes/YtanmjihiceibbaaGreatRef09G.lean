/- Contract of ferrymanref09: table. -/
import Derived.Test.YtanmjihiceibbaaGreatPack4
namespace Go.Proofs.YtanmjihiceibbaaGreat
open Go.RowKit

/-- What a table's bytes tell: whether they are one, and the entries. -/
def TabledN (w : World) (TL : Option (List Ent)) (e : Ending) (w' : World) : Prop :=
  ∃ vt t, e = .returned (.tuple #[vt, .bool TL.isSome]) ∧ OwnE w' w.heap.size vt t ∧ (∀ e ∈ t, EntI e) ∧ (∀ t', TL = some t' → t = t') ∧ Below w.heap.size w w'

/-- Where the reading of a table stands: so many are left to be read. -/
def TabAtE (b : List UInt8) (many : Nat) (t : List Ent) (at' : Nat) : Prop :=
  readE many (b.drop (dec62 b).2) = (readE (many - t.length) (b.drop at')).map (fun r => (t ++ r.1, r.2))

theorem readE_eq (n : Nat) (b : List UInt8) : readE (n + 1) b = if (dec62 b).2 = 0 ∨ (dec62 (b.drop (dec62 b).2)).2 = 0 ∨ (dec64 (b.drop ((dec62 b).2 + (dec62 (b.drop (dec62 b).2)).2))).2 = 0 then none
    else (readE n (b.drop ((dec62 b).2 + (dec62 (b.drop (dec62 b).2)).2 + (dec64 (b.drop ((dec62 b).2 + (dec62 (b.drop (dec62 b).2)).2))).2))).map (fun r => (⟨(dec62 b).1, (dec62 (b.drop (dec62 b).2)).1, zag (dec64 (b.drop ((dec62 b).2 + (dec62 (b.drop (dec62 b).2)).2))).1⟩ :: r.1, r.2)) := rfl

theorem tableL_eq {b : List UInt8} (h0 : (dec62 b).2 ≠ 0) (h1 : (dec62 b).1 ≤ b.length) : tableL b = (readE (dec62 b).1 (b.drop (dec62 b).2)).bind (fun r => if r.2 = [] then some r.1 else none) := by
  unfold tableL
  rw [if_neg (by omega)]
  cases readE (dec62 b).1 (b.drop (dec62 b).2) with
  | none => rfl
  | some p =>
    obtain ⟨t, x⟩ := p
    cases x <;> rfl

set_option maxRecDepth 100000 in
set_option maxHeartbeats 4000000 in
theorem refTableL_any (v : Value) (b : List UInt8) (w : World) (hr : Rd w v b) (hlim : b.length ≤ 100000) :
    Calls Tryz.prog 54 #[v] w fun e w' => TabledN w (tableL b) e w' := by
  have HR := hide hr
  obtain ⟨va, vc, rfl⟩ : ∃ va vc, v = .slice va b.length vc := by
    obtain ⟨va, vc, rfl, _⟩ := hr
    exact ⟨va, vc, rfl⟩
  clear hr
  have HG := hide (fun v1 l W h => refGet_any v1 l W h)
  have HS := hide (fun v1 l W h => refGetSigned_any v1 l W h)
  have HTE := hide (tableL_eq (b := b))
  have b1 := dec62_le b
  have c1 : (dec62 b).1 < 4611686018427387904 := by
    rcases dec62_cases b with h | h
    · rw [h]; decide
    · exact h.1
  have HN0 : Hid ((dec62 b).2 = 0 ∨ b.length < (dec62 b).1 → tableL b = none) := hide (fun h => by unfold tableL; rw [if_pos h])
  have HG0 := hide (HG.out (.slice va b.length vc) b)
  have HTA0 : Hid (TabAtE b (dec62 b).1 [] (dec62 b).2) := hide (by
    unfold TabAtE
    rw [List.length_nil, Nat.sub_zero]
    cases readE (dec62 b).1 (b.drop (dec62 b).2) with
    | none => rfl
    | some p => rfl)
  have HTA : Hid (∀ t A, TabAtE b (dec62 b).1 t A ↔ readE (dec62 b).1 (b.drop (dec62 b).2) = (readE ((dec62 b).1 - t.length) (b.drop A)).map (fun r => (t ++ r.1, r.2))) := hide (fun t A => Iff.rfl)
  obtain ⟨RE, hRE⟩ : ∃ RE, RE = readE (dec62 b).1 (b.drop (dec62 b).2) := ⟨_, rfl⟩
  rw [← hRE] at HTE HTA
  clear hRE
  obtain ⟨TL, hTL⟩ : ∃ TL, TL = tableL b := ⟨_, rfl⟩
  rw [← hTL] at HTE HN0 ⊢
  clear hTL
  generalize (dec62 b).2 = k0 at *
  generalize (dec62 b).1 = many at *
  by_cases hbad : k0 = 0 ∨ b.length < many
  · have HE := hide (HN0.out hbad)
    by_cases e1 : k0 = 0
    · subst e1
      clear hbad
      go_enter Tryz.func54, Tryz.ntmps54
      go_wp2_with fail
      refine (HG0.out _ HR.out).mono ?_
      rintro e W1 ⟨rfl, hw1⟩
      rw [hw1]
      clear hw1 W1
      go_wp2
      go_ret2
      rw [HE.out]
      exact ⟨_, [], rfl, OwnE.nil _ _, (fun r h => by simp at h), (fun t h => by cases h), Below.refl _ _⟩
    have ek : ((k0 : Int) == 0) = false := beq_eq_false_iff_ne.2 (by omega)
    have hgt : (b.length : Int) < (many : Int) := by omega
    clear hbad
    go_enter Tryz.func54, Tryz.ntmps54
    go_wp2_with fail
    refine (HG0.out _ HR.out).mono ?_
    rintro e W1 ⟨rfl, hw1⟩
    rw [hw1]
    clear hw1 W1
    go_wp2
    go_ret2
    rw [HE.out]
    exact ⟨_, [], rfl, OwnE.nil _ _, (fun r h => by simp at h), (fun t h => by cases h), Below.refl _ _⟩
  have ek : ((k0 : Int) == 0) = false := beq_eq_false_iff_ne.2 (by omega)
  have hgd : decide ((b.length : Int) < (many : Int)) = false := decide_eq_false (by omega)
  have hgn : decide (b.length < many) = false := decide_eq_false (by omega)
  have HTE2 := hide (HTE.out (by omega) (by omega))
  have hmn : many ≤ 100000 := by omega
  clear hbad HN0 HTE
  go_enter Tryz.func54, Tryz.ntmps54
  go_wp2_with fail
  refine (HG0.out _ HR.out).mono ?_
  rintro e W1 ⟨rfl, hw1⟩
  rw [hw1]
  clear hw1 W1 HG0
  go_wp2
  go_loopw [5, 6, 7] (fun va' vt vn wr => ∃ (A : Nat) (t : List Ent), va' = .int .i64 (A : Int) ∧ vn = .int .i64 (t.length : Int) ∧ t.length ≤ many ∧ A ≤ b.length ∧ Hid (OwnE wr w.heap.size vt t) ∧ Hid (∀ e ∈ t, EntI e) ∧ Hid (TabAtE b many t A) ∧ Hid (Below w.heap.size w wr)) (fun _ _ vn _ => many - (intOf vn).toNat)
  case atStart => exact ⟨k0, [], rfl, rfl, Nat.zero_le _, b1, OwnE.nil _ _, hide (fun r h => by simp at h), HTA0, Below.refl _ _⟩
  case round =>
    clear HTA0
    obtain ⟨A, t, rfl, rfl, hq, hA, hO, hOK, hTA, hB⟩ := hrel
    have HT1 := hide ((HTA.out t A).1 hTA.out)
    obtain ⟨oa, oc, hoe⟩ := hO.out.shape
    subst hoe
    by_cases hlt : t.length < many
    case neg =>
      have hqi : ¬ (t.length : Int) < (many : Int) := by omega
      have HT2 : Hid (RE = some (t, b.drop A)) := hide (by
        rw [HT1.out, show many - t.length = 0 by omega]
        simp [readE])
      have HTL : Hid (TL = if b.drop A = [] then some t else none) := hide (by rw [HTE2.out, HT2.out]; rfl)
      by_cases hae : A = b.length
      · have HF : Hid (TL = some t) := hide (by rw [HTL.out, if_pos (by rw [hae]; exact List.drop_length)])
        have hbe : ((A : Int) == (b.length : Int)) = true := by rw [hae]; exact beq_self_eq_true _
        clear hae
        go_wp2
        go_ret2
        rw [HF.out]
        exact ⟨_, t, rfl, hO.out, hOK.out, (fun t' h => by injection h), hB.out⟩
      · have HF : Hid (TL = none) := hide (by
          rw [HTL.out, if_neg (fun e => by
            have := congrArg List.length e
            rw [List.length_drop, List.length_nil] at this
            omega)])
        have hbe : ((A : Int) == (b.length : Int)) = false := beq_eq_false_iff_ne.2 (by omega)
        clear hae
        go_wp2
        go_ret2
        rw [HF.out]
        exact ⟨_, t, rfl, hO.out, hOK.out, (fun t' h => by cases h), hB.out⟩
    have hqi : (t.length : Int) < (many : Int) := by omega
    have hsub : many - t.length = (many - (t.length + 1)) + 1 := by omega
    obtain ⟨i, hi⟩ : ∃ i, i = (dec62 (b.drop A)).2 := ⟨_, rfl⟩
    obtain ⟨j, hj⟩ : ∃ j, j = (dec62 (b.drop (A + i))).2 := ⟨_, rfl⟩
    obtain ⟨k, hk⟩ : ∃ k, k = (dec64 (b.drop (A + i + j))).2 := ⟨_, rfl⟩
    obtain ⟨p, hp⟩ : ∃ p, p = (dec62 (b.drop A)).1 := ⟨_, rfl⟩
    obtain ⟨q, hq2⟩ : ∃ q, q = (dec62 (b.drop (A + i))).1 := ⟨_, rfl⟩
    obtain ⟨x, hx⟩ : ∃ x, x = zag (dec64 (b.drop (A + i + j))).1 := ⟨_, rfl⟩
    have hE : readE (many - t.length) (b.drop A) = if i = 0 ∨ j = 0 ∨ k = 0 then none else (readE (many - (t.length + 1)) (b.drop (A + i + j + k))).map (fun r => (⟨(p : Nat), (q : Nat), x⟩ :: r.1, r.2)) := by
      rw [hsub, readE_eq]
      simp only [List.drop_drop]
      rw [hp, hq2, hx, hk, hj, hi]
      simp only [Nat.add_assoc]
    have HE := hide hE
    have d1 := dec62_le (b.drop A)
    have d2 := dec62_le (b.drop (A + i))
    have d3 := dec64_le (b.drop (A + i + j))
    rw [← hi] at d1
    rw [← hj] at d2
    rw [← hk] at d3
    simp only [List.length_drop] at d1 d2 d3
    have hp1 : p < 4611686018427387904 := by
      rw [hp]
      rcases dec62_cases (b.drop A) with h | h
      · rw [h]; decide
      · exact h.1
    have hp2 : q < 4611686018427387904 := by
      rw [hq2]
      rcases dec62_cases (b.drop (A + i)) with h | h
      · rw [h]; decide
      · exact h.1
    have HEI : Hid (EntI ⟨(p : Nat), (q : Nat), x⟩) := hide ⟨⟨by show _ ≤ ((p : Nat) : Int); omega, by show ((p : Nat) : Int) ≤ _; omega⟩, ⟨by show _ ≤ ((q : Nat) : Int); omega, by show ((q : Nat) : Int) ≤ _; omega⟩, by rw [hx]; exact zag_i64 (dec64_lt _)⟩
    have HG1 := hide (fun v1 W h => HG.out v1 (b.drop A) W h)
    have HG2 := hide (fun v1 W h => HG.out v1 (b.drop (A + i)) W h)
    have HG3 := hide (fun v1 W h => HS.out v1 (b.drop (A + i + j)) W h)
    rw [← hi, ← hp] at HG1
    rw [← hj, ← hq2] at HG2
    rw [← hk, ← hx] at HG3
    have HRB := hide (HR.out.below hB.out (Nat.le_refl _))
    have HC1 := hide (run_cut_l wr _ b HRB.out .i64 (A : Int) (by omega) (by omega))
    have HC2 := hide (run_cut_l wr _ b HRB.out .i64 ((A : Int) + (i : Int)) (by omega) (by omega))
    have HC3 := hide (run_cut_l wr _ b HRB.out .i64 ((A : Int) + (i : Int) + (j : Int)) (by omega) (by omega))
    have t1 : (A : Int).toNat = A := by omega
    have t2 : ((A : Int) + (i : Int)).toNat = A + i := by omega
    have t3 : ((A : Int) + (i : Int) + (j : Int)).toNat = A + i + j := by omega
    rw [t1] at HC1
    rw [t2] at HC2
    rw [t3] at HC3
    have hs1 : (A : Int) + (i : Int) ≤ 9223372036854775807 := by omega
    have hs2 : (A : Int) + (i : Int) + (j : Int) ≤ 9223372036854775807 := by omega
    have hs3 : (A : Int) + (i : Int) + (j : Int) + (k : Int) ≤ 9223372036854775807 := by omega
    have hAk : A + i + j + k ≤ b.length := by omega
    clear hi hj hk hp hq2 hx hE t1 t2 t3 HRB HG HS
    generalize b.drop A = D1 at *
    generalize b.drop (A + i) = D2 at *
    generalize b.drop (A + i + j) = D3 at *
    go_wp2_with (refine wpList_cut _ rfl _ _ _ _ rfl _ HC1.out ?_)
    intro v1 hr1
    have HR1 := hide hr1
    clear hr1
    go_wp2_with fail
    refine (HG1.out _ _ HR1.out).mono ?_
    rintro e W1 ⟨rfl, hw1⟩
    rw [hw1]
    clear hw1 W1 HR1 HC1 HG1
    go_wp2_with (refine wpList_cut _ rfl _ _ _ _ rfl _ HC2.out ?_)
    intro v2 hr2
    have HR2 := hide hr2
    clear hr2
    go_wp2_with fail
    refine (HG2.out _ _ HR2.out).mono ?_
    rintro e W1 ⟨rfl, hw1⟩
    rw [hw1]
    clear hw1 W1 HR2 HC2 HG2
    go_wp2_with (refine wpList_cut _ rfl _ _ _ _ rfl _ HC3.out ?_)
    intro v3 hr3
    have HR3 := hide hr3
    clear hr3
    go_wp2_with fail
    refine (HG3.out _ _ HR3.out).mono ?_
    rintro e W1 ⟨rfl, hw1⟩
    rw [hw1]
    clear hw1 W1 HR3 HC3 HG3
    by_cases hbad : i = 0 ∨ j = 0 ∨ k = 0
    · have HF : Hid (TL = none) := hide (by
        rw [HTE2.out, HT1.out, HE.out, if_pos hbad]
        rfl)
      by_cases e1 : i = 0
      · subst e1
        clear hbad
        go_wp2
        go_ret2
        rw [HF.out]
        exact ⟨_, [], rfl, OwnE.nil _ _, (fun r h => by simp at h), (fun t h => by cases h), hB.out⟩
      have ei : ((i : Int) == 0) = false := beq_eq_false_iff_ne.2 (by omega)
      by_cases e2 : j = 0
      · subst e2
        clear hbad
        go_wp2
        go_ret2
        rw [HF.out]
        exact ⟨_, [], rfl, OwnE.nil _ _, (fun r h => by simp at h), (fun t h => by cases h), hB.out⟩
      have ej : ((j : Int) == 0) = false := beq_eq_false_iff_ne.2 (by omega)
      have e3 : k = 0 := by omega
      subst e3
      clear hbad
      go_wp2
      go_ret2
      rw [HF.out]
      exact ⟨_, [], rfl, OwnE.nil _ _, (fun r h => by simp at h), (fun t h => by cases h), hB.out⟩
    have ei : ((i : Int) == 0) = false := beq_eq_false_iff_ne.2 (by omega)
    have ej : ((j : Int) == 0) = false := beq_eq_false_iff_ne.2 (by omega)
    have ek2 : ((k : Int) == 0) = false := beq_eq_false_iff_ne.2 (by omega)
    have HTN : Hid (TabAtE b many (t ++ [⟨(p : Nat), (q : Nat), x⟩]) (A + i + j + k)) := hide ((HTA.out _ _).2 (by
      rw [HT1.out, HE.out, if_neg hbad]
      have el : (t ++ [(⟨(p : Nat), (q : Nat), x⟩ : Ent)]).length = t.length + 1 := by simp
      rw [el]
      cases readE (many - (t.length + 1)) (b.drop (A + i + j + k)) with
      | none => rfl
      | some r => simp))
    have HSZ := hide hB.out.size
    clear hbad HE HT1
    go_wp2_with (at_builtin; refine wpList_append_ent _ rfl _ _ rfl w.heap.size _ t rfl hO.out ⟨(p : Nat), (q : Nat), x⟩ rfl (by omega) HSZ.out ?_)
    intro v5 W5 ho5 hb5
    have HO5 := hide ho5
    have HB5 := hide (hB.out.trans hb5)
    have HOK5 : Hid (∀ e ∈ t ++ [(⟨(p : Nat), (q : Nat), x⟩ : Ent)], EntI e) := hide (fun e he => by
      rcases List.mem_append.1 he with h | h
      · exact hOK.out e h
      · rw [List.mem_singleton.1 h]; exact HEI.out)
    clear ho5 hb5 hO hB hOK
    go_wp2
    go_roundw
    case rel => exact ⟨A + i + j + k, t ++ [⟨(p : Nat), (q : Nat), x⟩], by go_num, by simp, by simp; omega, hAk, HO5, HOK5, HTN, HB5⟩
    case measure => simp [intOf]; omega

end Go.Proofs.YtanmjihiceibbaaGreat
