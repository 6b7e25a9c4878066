/- Contracts of ferrymanref11: set. -/
import Derived.Test.YtfhgjnfichgdiaaRef11A
namespace Go.Proofs.Ytfhgjnfichgdiaa
open Go.RowKit

theorem setDone_true (n : Int) : ∀ l : Dir, setDone n true l = true
  | [] => rfl
  | p :: l => by
    show setDone n (true || decide (p.1 > n)) l = true
    rw [Bool.true_or]
    exact setDone_true n l

set_option maxRecDepth 100000 in
set_option maxHeartbeats 2000000 in
theorem refPut_any (v : Value) (l : Dir) (n : Int) (f : Nat) (w : World) (h : RdN w v l) (hn : I64 n) (hl : l.length ≤ 900000) :
    Calls Try.prog 52 #[v, .int .i64 n, .int .i64 (f : Int)] w fun e w' => ∃ v', e = .returned v' ∧ OwnN w' w.heap.size v' (setN l n (some f)) ∧ Below w.heap.size w w' := by
  have H := hide h
  have HNI := hide hn
  obtain ⟨ao, cap, rfl, -⟩ := h
  have HG : Hid (setN l n (some f) = setOut n f false l ++ (if setDone n false l then [] else [(n, f)])) := hide (setG_out n f l false)
  clear hn
  go_enter Try.func52, Try.ntmps52
  go_wp2
  go_loopw [7, 8, 9] (fun vo vd vi wr => ∃ k : Nat, vi = .int .i64 (k : Int) ∧ k ≤ l.length ∧ vd = .bool (setDone n false (l.take k)) ∧ Hid (OwnN wr w.heap.size vo (setOut n f false (l.take k))) ∧ Hid (Below w.heap.size w wr)) (fun _ _ vi _ => l.length - (intOf vi).toNat)
  case atStart => exact ⟨0, rfl, Nat.zero_le _, rfl, hide (OwnN.nil _ _), hide (Below.refl _ _)⟩
  case round =>
    obtain ⟨k, rfl, hkl, rfl, HO, HB⟩ := hrel
    have HSZ : Hid (w.heap.size ≤ wr.heap.size) := hide HB.out.size
    by_cases hlt : k < l.length
    · obtain ⟨x, hx⟩ : ∃ x, x = l[k] := ⟨_, rfl⟩
      obtain ⟨b, off, hao, hxi, hcell⟩ : ∃ b off, ao = some ⟨b, off, none⟩ ∧ NmI x ∧ ∀ W, Below w.heap.size w W → NmAt W b (off + k * 2) x := by
        obtain ⟨a', c', hv', _, _, _, hi, h6⟩ := H.out
        simp only [Value.slice.injEq] at hv'
        obtain ⟨rfl, _, rfl⟩ := hv'
        rcases h6 with h6 | ⟨b, off, rfl, h7⟩
        · rw [h6] at hlt
          simp at hlt
        · refine ⟨b, off, rfl, by rw [hx]; exact hi _ (List.getElem_mem hlt), fun W hW => ?_⟩
          have h8 := h7 k hlt
          have e : l.getD k ((0 : Int), (0 : Nat)) = x := by rw [hx]; simp [List.getD, hlt]
          rw [e] at h8
          exact h8.keep (hW.block b h8.lt)
      have HCL := hide hcell
      have e1 : setOut n f false (l.take (k + 1)) = setOut n f false (l.take k) ++ ((if !(setDone n false (l.take k)) && decide (x.1 > n) then [(n, f)] else []) ++ (if x.1 ≠ n then [x] else [])) := by
        rw [List.take_succ_eq_append_getElem hlt, ← hx]
        exact setOut_snoc n f (l.take k) false x
      have e2 : setDone n false (l.take (k + 1)) = (setDone n false (l.take k) || decide (x.1 > n)) := by
        rw [List.take_succ_eq_append_getElem hlt, ← hx]
        exact setDone_snoc n false (l.take k) x
      have hlo : (setOut n f false (l.take k)).length ≤ 900001 := by
        have h1 := setG_out n f (l.take k) false
        have h2 := length_setG n f (l.take k) false
        rw [h1, List.length_append] at h2
        have h3 : (l.take k).length ≤ l.length := by rw [List.length_take]; omega
        have h4 : (if false = true then 0 else 1) ≤ 1 := by decide
        omega
      obtain ⟨D, hD⟩ : ∃ D, D = setDone n false (l.take k) := ⟨_, rfl⟩
      obtain ⟨O, hO⟩ : ∃ O, O = setOut n f false (l.take k) := ⟨_, rfl⟩
      rw [← hD] at e1 e2 ⊢
      rw [← hO] at e1 hlo HO
      clear hO
      have HE1 := hide e1
      have HE2 := hide e2
      have HLT := hide hlt
      obtain ⟨⟨c0, c1⟩⟩ : Nonempty (wr.cell? ⟨b, off + k * 2, none⟩ = some (.int .i64 x.1) ∧ wr.cell? ⟨b, off + k * 2 + 1, none⟩ = some (.int .i64 (x.2 : Int))) := ⟨hcell wr HB.out⟩
      subst hao
      obtain ⟨vs, va, hvs⟩ := HO.out.shape
      subst hvs
      clear hcell e1 e2 hx hxi hD
      obtain ⟨xn, xf⟩ := x
      dsimp only at *
      cases D with
      | true =>
        by_cases hne : xn = n
        · have hb0 : (xn != n) = false := by simpa using hne
          have HS : Hid ((if !true && decide (xn > n) then [(n, f)] else []) ++ (if xn ≠ n then [((xn, xf) : Int × Nat)] else []) = ([] : Dir)) := hide (by rw [if_neg (by simp [hne]), if_neg (by simp [hne])]; rfl)
          clear hne
          go_wp2
          go_roundw
          case rel => exact ⟨k + 1, by go_num, by have := HLT.out; omega, by rw [HE2.out]; rfl, hide (by rw [HE1.out]; rw [HS.out, List.append_nil]; exact HO.out), HB⟩
          case measure => have := HLT.out; simp [intOf]; omega
        · have hb0 : (xn != n) = true := by simpa using hne
          have HS : Hid ((if !true && decide (xn > n) then [(n, f)] else []) ++ (if xn ≠ n then [((xn, xf) : Int × Nat)] else []) = [(xn, xf)]) := hide (by rw [if_neg (by simp), if_pos hne]; rfl)
          clear hne
          go_wp2_with (at_builtin; refine (fun (h : True → _) => h trivial) ?_)
          intro _
          refine wpList_append_nm wr rfl _ _ rfl w.heap.size (.slice vs O.length va) O rfl HO.out (xn, xf) rfl (by omega) HSZ.out ?_
          intro v2 w2 ho2 hb2
          obtain ⟨O2, hO2⟩ : ∃ O2, O2 = O ++ [(xn, xf)] := ⟨_, rfl⟩
          rw [← hO2] at ho2
          have HOE2 := hide hO2
          have hlo2 : O2.length ≤ 900002 := by rw [hO2, List.length_append, List.length_singleton]; omega
          obtain ⟨a2, cp2, hv2⟩ := ho2.shape
          subst hv2
          have HO2 := hide ho2
          have HB2 : Hid (Below w.heap.size w w2) := hide (HB.out.trans hb2)
          clear ho2 hb2 hO2
          go_wp2
          go_roundw
          case rel => exact ⟨k + 1, by go_num, by have := HLT.out; omega, by rw [HE2.out]; rfl, hide (by rw [HE1.out]; rw [HS.out, ← HOE2.out]; exact HO2.out), HB2⟩
          case measure => have := HLT.out; simp [intOf]; omega
      | false =>
        by_cases hgt : xn > n
        · have hg0 : decide (xn > n) = true := decide_eq_true hgt
          have hb0 : (xn != n) = true := by simp; omega
          have HS : Hid ((if !false && decide (xn > n) then [(n, f)] else []) ++ (if xn ≠ n then [((xn, xf) : Int × Nat)] else []) = [(n, f), (xn, xf)]) := hide (by rw [if_pos (by simp [hgt]), if_pos (by omega)]; rfl)
          have HDN : Hid ((false || decide (xn > n)) = true) := hide (by simp [hgt])
          clear hgt
          go_wp2_with (at_builtin; refine (fun (h : True → _) => h trivial) ?_)
          intro _
          refine wpList_append_nm wr rfl _ _ rfl w.heap.size (.slice vs O.length va) O rfl HO.out (n, f) rfl (by omega) HSZ.out ?_
          intro v2 w2 ho2 hb2
          obtain ⟨O2, hO2⟩ : ∃ O2, O2 = O ++ [(n, f)] := ⟨_, rfl⟩
          rw [← hO2] at ho2
          have HOE2 := hide hO2
          have hlo2 : O2.length ≤ 900002 := by rw [hO2, List.length_append, List.length_singleton]; omega
          obtain ⟨a2, cp2, hv2⟩ := ho2.shape
          subst hv2
          have HO2 := hide ho2
          have HB2 : Hid (Below w.heap.size w w2) := hide (HB.out.trans hb2)
          clear ho2 hb2 hO2
          have c0 := (HCL.out _ HB2.out).1
          have c1 := (HCL.out _ HB2.out).2
          have HSZ2 : Hid (w.heap.size ≤ w2.heap.size) := hide HB2.out.size
          go_wp2_with (at_builtin; refine (fun (h : True → _) => h trivial) ?_)
          intro _
          refine wpList_append_nm w2 rfl _ _ rfl w.heap.size (.slice a2 O2.length cp2) O2 rfl HO2.out (xn, xf) rfl (by omega) HSZ2.out ?_
          intro v3 w3 ho3 hb3
          obtain ⟨O3, hO3⟩ : ∃ O3, O3 = O2 ++ [(xn, xf)] := ⟨_, rfl⟩
          rw [← hO3] at ho3
          have HOE3 := hide hO3
          have hlo3 : O3.length ≤ 900003 := by rw [hO3, List.length_append, List.length_singleton]; omega
          obtain ⟨a3, cp3, hv3⟩ := ho3.shape
          subst hv3
          have HO3 := hide ho3
          have HB3 : Hid (Below w.heap.size w w3) := hide (HB2.out.trans hb3)
          clear ho3 hb3 hO3
          go_wp2
          go_roundw
          case rel => exact ⟨k + 1, by go_num, by have := HLT.out; omega, by rw [HE2.out]; rw [HDN.out], hide (by rw [HE1.out]; rw [HS.out, show O ++ [(n, f), (xn, xf)] = O ++ [(n, f)] ++ [(xn, xf)] by simp, ← HOE2.out, ← HOE3.out]; exact HO3.out), HB3⟩
          case measure => have := HLT.out; simp [intOf]; omega
        · have hg0 : decide (xn > n) = false := decide_eq_false hgt
          have HDN : Hid ((false || decide (xn > n)) = false) := hide (by simp [hgt])
          by_cases hne : xn = n
          · have hb0 : (xn != n) = false := by simpa using hne
            have HS : Hid ((if !false && decide (xn > n) then [(n, f)] else []) ++ (if xn ≠ n then [((xn, xf) : Int × Nat)] else []) = ([] : Dir)) := hide (by rw [if_neg (by simp [hne]), if_neg (by simp [hne])]; rfl)
            clear hne
            go_wp2
            go_roundw
            case rel => exact ⟨k + 1, by go_num, by have := HLT.out; omega, by rw [HE2.out]; rw [HDN.out], hide (by rw [HE1.out]; rw [HS.out, List.append_nil]; exact HO.out), HB⟩
            case measure => have := HLT.out; simp [intOf]; omega
          · have hb0 : (xn != n) = true := by simpa using hne
            have HS : Hid ((if !false && decide (xn > n) then [(n, f)] else []) ++ (if xn ≠ n then [((xn, xf) : Int × Nat)] else []) = [(xn, xf)]) := hide (by rw [if_neg (by simp [hgt]), if_pos hne]; rfl)
            clear hne
            go_wp2_with (at_builtin; refine (fun (h : True → _) => h trivial) ?_)
            intro _
            refine wpList_append_nm wr rfl _ _ rfl w.heap.size (.slice vs O.length va) O rfl HO.out (xn, xf) rfl (by omega) HSZ.out ?_
            intro v2 w2 ho2 hb2
            obtain ⟨O2, hO2⟩ : ∃ O2, O2 = O ++ [(xn, xf)] := ⟨_, rfl⟩
            rw [← hO2] at ho2
            have HOE2 := hide hO2
            have hlo2 : O2.length ≤ 900002 := by rw [hO2, List.length_append, List.length_singleton]; omega
            obtain ⟨a2, cp2, hv2⟩ := ho2.shape
            subst hv2
            have HO2 := hide ho2
            have HB2 : Hid (Below w.heap.size w w2) := hide (HB.out.trans hb2)
            clear ho2 hb2 hO2
            go_wp2
            go_roundw
            case rel => exact ⟨k + 1, by go_num, by have := HLT.out; omega, by rw [HE2.out]; rw [HDN.out], hide (by rw [HE1.out]; rw [HS.out, ← HOE2.out]; exact HO2.out), HB2⟩
            case measure => have := HLT.out; simp [intOf]; omega
    · have hk2 : k = l.length := by omega
      subst hk2
      rw [List.take_length] at HO ⊢
      obtain ⟨vs, va, hvs⟩ := HO.out.shape
      subst hvs
      have hlo : (setOut n f false l).length ≤ 900001 := by
        have h1 := setG_out n f l false
        have h2 := length_setG n f l false
        rw [h1, List.length_append] at h2
        have h4 : (if false = true then 0 else 1) ≤ 1 := by decide
        omega
      cases hD : setDone n false l with
      | true =>
        rw [hD] at HG
        go_wp2
        go_ret
        exact ⟨_, rfl, by have h := HG.out; simp only [if_true, List.append_nil] at h; rw [h]; exact HO.out, HB.out⟩
      | false =>
        rw [hD] at HG
        clear hD
        obtain ⟨O, hO⟩ : ∃ O, O = setOut n f false l := ⟨_, rfl⟩
        rw [← hO] at HO HG hlo ⊢
        clear hO
        go_wp2_with (at_builtin; refine (fun (h : True → _) => h trivial) ?_)
        intro _
        refine wpList_append_nm wr rfl _ _ rfl w.heap.size (.slice vs O.length va) O rfl HO.out (n, f) rfl (by omega) HSZ.out ?_
        intro v2 w2 ho2 hb2
        obtain ⟨O2, hO2⟩ : ∃ O2, O2 = O ++ [(n, f)] := ⟨_, rfl⟩
        rw [← hO2] at ho2
        have HOE2 := hide hO2
        have hlo2 : O2.length ≤ 900002 := by rw [hO2, List.length_append, List.length_singleton]; omega
        obtain ⟨a2, cp2, hv2⟩ := ho2.shape
        subst hv2
        have HO2 := hide ho2
        have HB2 : Hid (Below w.heap.size w w2) := hide (HB.out.trans hb2)
        clear ho2 hb2 hO2
        go_wp2
        go_ret
        exact ⟨_, rfl, by have h := HG.out; simp only [Bool.false_eq_true, if_false] at h; rw [h, ← HOE2.out]; exact HO2.out, HB2.out⟩

set_option maxRecDepth 100000 in
set_option maxHeartbeats 2000000 in
theorem refDel_any (v : Value) (l : Dir) (n : Int) (w : World) (h : RdN w v l) (hn : I64 n) (hl : l.length ≤ 900000) :
    Calls Try.prog 52 #[v, .int .i64 n, .int .i64 (-1)] w fun e w' => ∃ v', e = .returned v' ∧ OwnN w' w.heap.size v' (setN l n none) ∧ Below w.heap.size w w' := by
  have H := hide h
  have HNI := hide hn
  obtain ⟨ao, cap, rfl, -⟩ := h
  have HG : Hid (setN l n none = setOut n 0 true l ++ (if setDone n true l then [] else [(n, 0)])) := hide (setG_out n 0 l true)
  clear hn
  go_enter Try.func52, Try.ntmps52
  go_wp2
  go_loopw [7, 8, 9] (fun vo vd vi wr => ∃ k : Nat, vi = .int .i64 (k : Int) ∧ k ≤ l.length ∧ vd = .bool (setDone n true (l.take k)) ∧ Hid (OwnN wr w.heap.size vo (setOut n 0 true (l.take k))) ∧ Hid (Below w.heap.size w wr)) (fun _ _ vi _ => l.length - (intOf vi).toNat)
  case atStart => exact ⟨0, rfl, Nat.zero_le _, rfl, hide (OwnN.nil _ _), hide (Below.refl _ _)⟩
  case round =>
    obtain ⟨k, rfl, hkl, rfl, HO, HB⟩ := hrel
    have HSZ : Hid (w.heap.size ≤ wr.heap.size) := hide HB.out.size
    by_cases hlt : k < l.length
    · obtain ⟨x, hx⟩ : ∃ x, x = l[k] := ⟨_, rfl⟩
      obtain ⟨b, off, hao, hxi, hcell⟩ : ∃ b off, ao = some ⟨b, off, none⟩ ∧ NmI x ∧ ∀ W, Below w.heap.size w W → NmAt W b (off + k * 2) x := by
        obtain ⟨a', c', hv', _, _, _, hi, h6⟩ := H.out
        simp only [Value.slice.injEq] at hv'
        obtain ⟨rfl, _, rfl⟩ := hv'
        rcases h6 with h6 | ⟨b, off, rfl, h7⟩
        · rw [h6] at hlt
          simp at hlt
        · refine ⟨b, off, rfl, by rw [hx]; exact hi _ (List.getElem_mem hlt), fun W hW => ?_⟩
          have h8 := h7 k hlt
          have e : l.getD k ((0 : Int), (0 : Nat)) = x := by rw [hx]; simp [List.getD, hlt]
          rw [e] at h8
          exact h8.keep (hW.block b h8.lt)
      have HCL := hide hcell
      have e1 : setOut n 0 true (l.take (k + 1)) = setOut n 0 true (l.take k) ++ ((if !(setDone n true (l.take k)) && decide (x.1 > n) then [(n, 0)] else []) ++ (if x.1 ≠ n then [x] else [])) := by
        rw [List.take_succ_eq_append_getElem hlt, ← hx]
        exact setOut_snoc n 0 (l.take k) true x
      have e2 : setDone n true (l.take (k + 1)) = (setDone n true (l.take k) || decide (x.1 > n)) := by
        rw [List.take_succ_eq_append_getElem hlt, ← hx]
        exact setDone_snoc n true (l.take k) x
      have hlo : (setOut n 0 true (l.take k)).length ≤ 900001 := by
        have h1 := setG_out n 0 (l.take k) true
        have h2 := length_setG n 0 (l.take k) true
        rw [h1, List.length_append] at h2
        have h3 : (l.take k).length ≤ l.length := by rw [List.length_take]; omega
        have h4 : (if true = true then 0 else 1) ≤ 1 := by decide
        omega
      obtain ⟨D, hD⟩ : ∃ D, D = setDone n true (l.take k) := ⟨_, rfl⟩
      obtain ⟨O, hO⟩ : ∃ O, O = setOut n 0 true (l.take k) := ⟨_, rfl⟩
      rw [← hD] at e1 e2 ⊢
      rw [← hO] at e1 hlo HO
      clear hO
      have HE1 := hide e1
      have HE2 := hide e2
      have HLT := hide hlt
      obtain ⟨⟨c0, c1⟩⟩ : Nonempty (wr.cell? ⟨b, off + k * 2, none⟩ = some (.int .i64 x.1) ∧ wr.cell? ⟨b, off + k * 2 + 1, none⟩ = some (.int .i64 (x.2 : Int))) := ⟨hcell wr HB.out⟩
      subst hao
      obtain ⟨vs, va, hvs⟩ := HO.out.shape
      subst hvs
      clear hcell e1 e2 hx hxi
      obtain ⟨xn, xf⟩ := x
      dsimp only at *
      have hDt : D = true := by rw [hD]; exact setDone_true n _
      subst hDt
      clear hD
      by_cases hne : xn = n
      · have hb0 : (xn != n) = false := by simpa using hne
        have HS : Hid ((if !true && decide (xn > n) then [(n, 0)] else []) ++ (if xn ≠ n then [((xn, xf) : Int × Nat)] else []) = ([] : Dir)) := hide (by rw [if_neg (by simp [hne]), if_neg (by simp [hne])]; rfl)
        clear hne
        go_wp2
        go_roundw
        case rel => exact ⟨k + 1, by go_num, by have := HLT.out; omega, by rw [HE2.out]; rfl, hide (by rw [HE1.out]; rw [HS.out, List.append_nil]; exact HO.out), HB⟩
        case measure => have := HLT.out; simp [intOf]; omega
      · have hb0 : (xn != n) = true := by simpa using hne
        have HS : Hid ((if !true && decide (xn > n) then [(n, 0)] else []) ++ (if xn ≠ n then [((xn, xf) : Int × Nat)] else []) = [(xn, xf)]) := hide (by rw [if_neg (by simp), if_pos hne]; rfl)
        clear hne
        go_wp2_with (at_builtin; refine (fun (h : True → _) => h trivial) ?_)
        intro _
        refine wpList_append_nm wr rfl _ _ rfl w.heap.size (.slice vs O.length va) O rfl HO.out (xn, xf) rfl (by omega) HSZ.out ?_
        intro v2 w2 ho2 hb2
        obtain ⟨O2, hO2⟩ : ∃ O2, O2 = O ++ [(xn, xf)] := ⟨_, rfl⟩
        rw [← hO2] at ho2
        have HOE2 := hide hO2
        have hlo2 : O2.length ≤ 900002 := by rw [hO2, List.length_append, List.length_singleton]; omega
        obtain ⟨a2, cp2, hv2⟩ := ho2.shape
        subst hv2
        have HO2 := hide ho2
        have HB2 : Hid (Below w.heap.size w w2) := hide (HB.out.trans hb2)
        clear ho2 hb2 hO2
        go_wp2
        go_roundw
        case rel => exact ⟨k + 1, by go_num, by have := HLT.out; omega, by rw [HE2.out]; rfl, hide (by rw [HE1.out]; rw [HS.out, ← HOE2.out]; exact HO2.out), HB2⟩
        case measure => have := HLT.out; simp [intOf]; omega
    · have hk2 : k = l.length := by omega
      subst hk2
      rw [List.take_length] at HO ⊢
      obtain ⟨vs, va, hvs⟩ := HO.out.shape
      subst hvs
      have hlo : (setOut n 0 true l).length ≤ 900001 := by
        have h1 := setG_out n 0 l true
        have h2 := length_setG n 0 l true
        rw [h1, List.length_append] at h2
        have h4 : (if true = true then 0 else 1) ≤ 1 := by decide
        omega
      cases hD : setDone n true l with
      | true =>
        rw [hD] at HG
        go_wp2
        go_ret
        exact ⟨_, rfl, by have h := HG.out; simp only [if_true, List.append_nil] at h; rw [h]; exact HO.out, HB.out⟩
      | false =>
        rw [setDone_true] at hD
        cases hD

end Go.Proofs.Ytfhgjnfichgdiaa
