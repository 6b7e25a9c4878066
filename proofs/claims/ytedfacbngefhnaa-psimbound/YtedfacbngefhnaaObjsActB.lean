/- Contracts of objs: line. -/
import Derived.Test.YtedfacbngefhnaaObjsActA
namespace Go.Proofs.Ytedfacbngefhnaa
open Go.RowKit

theorem ret_vi {v : Value} {a b : Int} (h : a = b) : Ending.returned (.tuple #[v, .int .i64 a]) = .returned (.tuple #[v, .int .i64 b]) := by rw [h]

set_option maxRecDepth 100000 in
set_option maxHeartbeats 1000000 in
theorem line_any (kind : Int) (hk : kind = 2 ∨ kind = 3) (v : Value) (l : List Int) (o : Opn) (shut : Bool) (g : Int) (B : Nat) (w : World) (ho : OwnI w B v l) (hB : B ≤ w.heap.size) (hi : ∀ x ∈ l, I64 x) (h64 : l.length ≤ 64) :
    Calls Try.prog 65 #[.int .i64 kind, v, opV o] w fun e w' => Acted B w v (listS ⟨kind, l, shut, g⟩ o).1.L (listS ⟨kind, l, shut, g⟩ o).2 e w' := by
  obtain ⟨code, a, b⟩ := o
  have HO := hide' ho
  have HBA : Hid (∀ X, Mv w (w.alloc X) v v) := fun X => Mv.alloc w v X
  have HC := hide' (fun n w => cutO_any n w)
  show Calls Try.prog _ #[_, _, .agg #[.int .i64 code, .int .i64 a, .int .i64 b]] w _
  by_cases c3 : code = 3
  · subst c3
    obtain ⟨ao, cap, rfl⟩ := ho.shape
    by_cases hf : l.length = 64
    · have HE : Hid (listS ⟨kind, l, shut, g⟩ ⟨3, a, b⟩ = (⟨kind, l, shut, g⟩, -1)) := by
        unfold listS
        rw [if_pos rfl, if_pos hf]
        exact rfl
      rw [HE.out]
      have hq : ((l.length : Int) == 64) = true := beq_iff_eq.2 (by omega)
      clear hf HE ho hi h64 hk
      go_enter Try.func65, Try.ntmps65
      go_wp2
      go_ret2
      exact ⟨_, rfl, HO.out.alloc _, HBA.out _⟩
    · have HE : Hid (listS ⟨kind, l, shut, g⟩ ⟨3, a, b⟩ = (⟨kind, l ++ [cutZ a], shut, g⟩, (l.length : Int) + 1)) := by
        unfold listS
        rw [if_pos rfl, if_neg hf]
        exact rfl
      rw [HE.out]
      have hq : ((l.length : Int) == 64) = false := beq_eq_false_iff_ne.2 (by omega)
      obtain ⟨L', hL'⟩ : ∃ L', L' = l ++ [cutZ a] := ⟨_, rfl⟩
      rw [← hL']
      have HLL := hide' hL'
      have HL : Hid ((L'.length : Int) = (l.length : Int) + 1) := by rw [hL', List.length_append]; exact rfl
      clear hf HE ho hi hk hL'
      go_enter Try.func65, Try.ntmps65
      go_wp2_with (first | (go_at_call 68; refine (HC.out _ _).mono ?_; rintro e w2 ⟨rfl, rfl⟩) | (at_builtin; refine wpList_append_intg _ rfl _ _ rfl B _ l rfl (HO.out.alloc _) _ _ rfl (by simp [Act.eval]) (by omega) (by simp; omega) ?_))
      intro v1 W1 ho1 hg1 ha1
      have hb1 := Mv.app hg1 (by simp) ha1
      clear hg1 ha1
      rw [← HLL.out] at ho1
      have HO1 := hide' ho1
      obtain ⟨ao1, cap1, rfl⟩ := ho1.shape
      have HB1 := hide' ((HBA.out _).trans hb1)
      clear ho1 hb1
      go_wp2
      go_ret2
      exact ⟨_, ret_vi HL.out, HO1.out, HB1.out⟩
  · have e3 : (code == 3) = false := beq_eq_false_iff_ne.2 c3
    by_cases c4 : code = 4
    · subst c4
      have HP : Hid (∀ X, Calls Try.prog 69 #[.int .i64 kind, v] (w.alloc X) fun e w' => Acted B (w.alloc X) v (listS ⟨kind, l, shut, g⟩ ⟨4, a, b⟩).1.L (listS ⟨kind, l, shut, g⟩ ⟨4, a, b⟩).2 e w') := fun X => pop_any kind hk v l shut g a b B (w.alloc X) (HO.out.alloc X) hi h64
      generalize (listS ⟨kind, l, shut, g⟩ ⟨4, a, b⟩).1.L = L' at *
      generalize (listS ⟨kind, l, shut, g⟩ ⟨4, a, b⟩).2 = n at *
      clear ho hi h64 hk c3 e3
      go_enter Try.func65, Try.ntmps65
      go_wp2_with fail
      refine (HP.out _).mono ?_
      rintro e W1 ⟨v1, rfl, ho1, hb1⟩
      have HO1 := hide' ho1
      have HB1 := hide' ((HBA.out _).trans hb1)
      clear ho1 hb1
      go_wp2
      go_ret2
      exact ⟨_, rfl, HO1.out, HB1.out⟩
    · have e4 : (code == 4) = false := beq_eq_false_iff_ne.2 c4
      obtain ⟨ao, cap, rfl⟩ := ho.shape
      by_cases c7 : code = 7
      · have e7 : (code == 7) = true := beq_iff_eq.2 c7
        have HE : Hid (listS ⟨kind, l, shut, g⟩ ⟨code, a, b⟩ = (⟨kind, l, shut, g⟩, (l.length : Int))) := by
          unfold listS
          rw [if_neg c3, if_neg c4, if_pos c7]
          exact rfl
        rw [HE.out]
        clear ho hi h64 hk c3 c4 c7 HE
        go_enter Try.func65, Try.ntmps65
        go_wp2
        go_ret2
        exact ⟨_, rfl, HO.out.alloc _, HBA.out _⟩
      · have e7 : (code == 7) = false := beq_eq_false_iff_ne.2 c7
        have HE : Hid (listS ⟨kind, l, shut, g⟩ ⟨code, a, b⟩ = (⟨kind, l, shut, g⟩, 0)) := by
          unfold listS
          rw [if_neg c3, if_neg c4, if_neg c7]
          exact rfl
        rw [HE.out]
        clear ho hi h64 hk c3 c4 c7 HE
        go_enter Try.func65, Try.ntmps65
        go_wp2
        go_ret2
        exact ⟨_, rfl, HO.out.alloc _, HBA.out _⟩

theorem OwnI.drew {w : World} {B : Nat} {v : Value} {l : List Int} (h : OwnI w B v l) : OwnI w.drew B v l := h

theorem hit_find (key : Int) (l : List Int) : findF key 0 l < 0 ↔ hitP key l = false := by
  rw [find_none]
  unfold hitP
  cases getP key l <;> simp

theorem had_hit {key : Int} {l : List Int} (h : hitP key l = true) : hadF key l = (getP key l).getD 0 := by
  rw [had_get]
  unfold hitP at h
  cases hg : getP key l with
  | none => rw [hg] at h; simp at h
  | some x => rfl

theorem had_miss {key : Int} {l : List Int} (h : hitP key l = false) : hadF key l = -1 := by
  rw [had_get]
  unfold hitP at h
  cases hg : getP key l with
  | none => rfl
  | some x => rw [hg] at h; simp at h

end Go.Proofs.Ytedfacbngefhnaa
