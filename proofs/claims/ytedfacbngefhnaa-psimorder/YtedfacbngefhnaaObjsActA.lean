/- Contracts of objs: counter, register, pop, line. -/
import Derived.Test.YtedfacbngefhnaaObjsPairs
namespace Go.Proofs.Ytedfacbngefhnaa
open Go.RowKit

/-- What a call answers that changes numbers of one's own in their place. -/
def Acted (B : Nat) (w : World) (v : Value) (L : List Int) (n : Int) (e : Ending) (w' : World) : Prop :=
  ∃ v', e = .returned (.tuple #[v', .int .i64 n]) ∧ OwnI w' B v' L ∧ Mv w w' v v'

theorem OwnI.alloc {w : World} {B : Nat} {v : Value} {l : List Int} (h : OwnI w B v l) (X : Obj) : OwnI (w.alloc X) B v l := World.ownsRow.alloc h X

/-- The one number of a row of one's own. -/
theorem OwnI.single {w : World} {B : Nat} {v : Value} {l : List Int} (h : OwnI w B v l) (hl : l.length = 1) :
    ∃ g cap, v = .slice (some ⟨g, 0, none⟩) 1 cap ∧ (∀ X, (w.alloc X).cell? ⟨g, 0, none⟩ = some (.int .i64 (l.getD 0 0)) ∧ (w.alloc X).frozen? ⟨g, 0, none⟩ = false) ∧ g < w.heap.size ∧
      ∀ X n, OwnI ((w.setCell ⟨g, 0, none⟩ (.int .i64 n)).alloc X) B v [n] ∧ Mv w ((w.setCell ⟨g, 0, none⟩ (.int .i64 n)).alloc X) v v := by
  obtain ⟨g, cap, rfl, -, -, hBg, hg, -, -⟩ := h.put 0 (by omega) 0
  refine ⟨g, cap, by rw [hl], fun X => ?_, hg, fun X n => ?_⟩
  · obtain ⟨g', cap', hv, h3, h4, _⟩ := (h.alloc X).put 0 (by omega) 0
    simp only [Value.slice.injEq, Option.some.injEq, Addr.mk.injEq] at hv
    obtain ⟨⟨rfl, _⟩, _, rfl⟩ := hv
    exact ⟨h3, h4⟩
  · obtain ⟨g', cap', hv, h3, h4, _, _, h7, h8⟩ := h.put 0 (by omega) n
    simp only [Value.slice.injEq, Option.some.injEq, Addr.mk.injEq] at hv
    obtain ⟨⟨rfl, _⟩, _, rfl⟩ := hv
    have e : l.set 0 n = [n] := by
      match l, hl with
      | [_], _ => rfl
    rw [e] at h7
    exact ⟨h7.alloc X, h8.trans (Mv.alloc _ _ X)⟩

set_option maxRecDepth 100000 in
set_option maxHeartbeats 1000000 in
theorem counter_any (v : Value) (l : List Int) (o : Opn) (shut : Bool) (g : Int) (B : Nat) (w : World) (ho : OwnI w B v l) (hl : l.length = 1) (hb0 : -1099511627776 ≤ l.getD 0 0) (hb1 : l.getD 0 0 ≤ 1099511627776) :
    Calls Try.prog 63 #[v, opV o] w fun e w' => e = .returned (.int .i64 (oneS ⟨0, l, shut, g⟩ o).2) ∧ OwnI w' B v (oneS ⟨0, l, shut, g⟩ o).1.L ∧ Mv w w' v v := by
  obtain ⟨code, a, b⟩ := o
  have HO := hide' ho
  have HBA : Hid (∀ X, Mv w (w.alloc X) v v) := fun X => Mv.alloc w v X
  have HC := hide' (fun n w => cutO_any n w)
  obtain ⟨c, cap, rfl, hcell, hlt, hput⟩ := ho.single hl
  have HPT := hide' hput
  have hc := fun X => (hcell X).1
  have hf := fun X => (hcell X).2
  clear hput ho hcell
  obtain ⟨n, hn⟩ : ∃ n, n = l.getD 0 0 := ⟨_, rfl⟩
  rw [← hn] at hb0 hb1
  simp only [← hn] at hc
  have HN := hide' hn
  have hca := cutZ_in a
  clear hn hl
  show Calls Try.prog _ #[_, .agg #[.int .i64 code, .int .i64 a, .int .i64 b]] w _
  by_cases c1 : code = 1
  · subst c1
    have HE : Hid (oneS ⟨0, l, shut, g⟩ ⟨1, a, b⟩ = (⟨0, [cutZ (n + cutZ a)], shut, g⟩, n)) := by rw [HN.out]; exact if_pos ⟨rfl, rfl⟩
    rw [HE.out]
    go_enter Try.func63, Try.ntmps63
    go_wp2_with (first | (go_at_call 68; refine (HC.out _ _).mono ?_; rintro e w2 ⟨rfl, rfl⟩))
    go_ret
    exact ⟨rfl, HPT.out _ _⟩
  · have e1 : (code == 1) = false := beq_eq_false_iff_ne.2 c1
    by_cases c7 : code = 7
    · have e7 : (code == 7) = true := beq_iff_eq.2 c7
      have HE : Hid (oneS ⟨0, l, shut, g⟩ ⟨code, a, b⟩ = (⟨0, l, shut, g⟩, n)) := by
        rw [HN.out]
        unfold oneS
        rw [if_neg (by simp; omega), if_neg (by simp), if_pos c7]
        exact rfl
      rw [HE.out]
      clear c1 c7
      go_enter Try.func63, Try.ntmps63
      go_wp2
      go_ret
      exact ⟨rfl, HO.out.alloc _, HBA.out _⟩
    · have e7 : (code == 7) = false := beq_eq_false_iff_ne.2 c7
      have HE : Hid (oneS ⟨0, l, shut, g⟩ ⟨code, a, b⟩ = (⟨0, l, shut, g⟩, 0)) := by
        unfold oneS
        rw [if_neg (by simp; omega), if_neg (by simp), if_neg c7]
        exact rfl
      rw [HE.out]
      clear c1 c7
      go_enter Try.func63, Try.ntmps63
      go_wp2
      go_ret
      exact ⟨rfl, HO.out.alloc _, HBA.out _⟩

set_option maxRecDepth 100000 in
set_option maxHeartbeats 1000000 in
theorem register_any (v : Value) (l : List Int) (o : Opn) (shut : Bool) (g : Int) (B : Nat) (w : World) (ho : OwnI w B v l) (hl : l.length = 1) :
    Calls Try.prog 64 #[v, opV o] w fun e w' => e = .returned (.int .i64 (oneS ⟨1, l, shut, g⟩ o).2) ∧ OwnI w' B v (oneS ⟨1, l, shut, g⟩ o).1.L ∧ Mv w w' v v := by
  obtain ⟨code, a, b⟩ := o
  have HO := hide' ho
  have HBA : Hid (∀ X, Mv w (w.alloc X) v v) := fun X => Mv.alloc w v X
  have HC := hide' (fun n w => cutO_any n w)
  obtain ⟨c, cap, rfl, hcell, hlt, hput⟩ := ho.single hl
  have HPT := hide' hput
  have hc := fun X => (hcell X).1
  have hf := fun X => (hcell X).2
  clear hput ho hcell
  obtain ⟨n, hn⟩ : ∃ n, n = l.getD 0 0 := ⟨_, rfl⟩
  simp only [← hn] at hc
  have HN := hide' hn
  clear hn hl
  show Calls Try.prog _ #[_, .agg #[.int .i64 code, .int .i64 a, .int .i64 b]] w _
  by_cases c1 : code = 2
  · subst c1
    have HE : Hid (oneS ⟨1, l, shut, g⟩ ⟨2, a, b⟩ = (⟨1, [cutZ a], shut, g⟩, n)) := by rw [HN.out]; exact rfl
    rw [HE.out]
    go_enter Try.func64, Try.ntmps64
    go_wp2_with (first | (go_at_call 68; refine (HC.out _ _).mono ?_; rintro e w2 ⟨rfl, rfl⟩))
    go_ret
    exact ⟨rfl, HPT.out _ _⟩
  · have e1 : (code == 2) = false := beq_eq_false_iff_ne.2 c1
    by_cases c7 : code = 7
    · have e7 : (code == 7) = true := beq_iff_eq.2 c7
      have HE : Hid (oneS ⟨1, l, shut, g⟩ ⟨code, a, b⟩ = (⟨1, l, shut, g⟩, n)) := by
        rw [HN.out]
        unfold oneS
        rw [if_neg (by simp), if_neg (by simp; omega), if_pos c7]
        exact rfl
      rw [HE.out]
      clear c1 c7
      go_enter Try.func64, Try.ntmps64
      go_wp2
      go_ret
      exact ⟨rfl, HO.out.alloc _, HBA.out _⟩
    · have e7 : (code == 7) = false := beq_eq_false_iff_ne.2 c7
      have HE : Hid (oneS ⟨1, l, shut, g⟩ ⟨code, a, b⟩ = (⟨1, l, shut, g⟩, 0)) := by
        unfold oneS
        rw [if_neg (by simp), if_neg (by simp; omega), if_neg c7]
        exact rfl
      rw [HE.out]
      clear c1 c7
      go_enter Try.func64, Try.ntmps64
      go_wp2
      go_ret
      exact ⟨rfl, HO.out.alloc _, HBA.out _⟩

set_option maxRecDepth 100000 in
set_option maxHeartbeats 1000000 in
theorem pop_any (kind : Int) (hk : kind = 2 ∨ kind = 3) (v : Value) (l : List Int) (shut : Bool) (g a b : Int) (B : Nat) (w : World) (ho : OwnI w B v l) (hi : ∀ x ∈ l, I64 x) (h64 : l.length ≤ 64) :
    Calls Try.prog 69 #[.int .i64 kind, v] w fun e w' => Acted B w v (listS ⟨kind, l, shut, g⟩ ⟨4, a, b⟩).1.L (listS ⟨kind, l, shut, g⟩ ⟨4, a, b⟩).2 e w' := by
  have HO := hide' ho
  have hsh := ho.shape
  by_cases h0 : l.length = 0
  · have HE : Hid (listS ⟨kind, l, shut, g⟩ ⟨4, a, b⟩ = (⟨kind, l, shut, g⟩, -1)) := by
      unfold listS
      rw [if_neg (by simp), if_pos rfl, if_pos h0]
      exact rfl
    rw [HE.out]
    obtain ⟨ao, cap, rfl⟩ := hsh
    rw [h0]
    have HO0 : Hid (OwnI w B (.slice ao 0 cap) l) := by
      have h := HO.out
      rwa [h0] at h
    clear HO ho h0 HE hi h64
    go_enter Try.func69, Try.ntmps69
    go_wp2
    go_ret2
    exact ⟨_, rfl, HO0.out, Mv.refl _ _⟩
  · have hne : ((l.length : Int) == 0) = false := beq_eq_false_iff_ne.2 (by omega)
    have hne' : l ≠ [] := fun h => h0 (by rw [h]; rfl)
    have hrd := ho.rd hi
    obtain ⟨ao, cap, rfl⟩ := hsh
    have HD : Hid (∀ i : Nat, i < l.length → ∀ I J, I = (i : Int) → J = ((i + 1 : Nat) : Int) → Calls Try.prog 76 #[.slice ao l.length cap, .int .i64 I, .int .i64 J] w fun e w' => ∃ v', e = .returned v' ∧ OwnI w' B v' (l.take i ++ l.drop (i + 1)) ∧ Mv w w' (.slice ao l.length cap) v') :=
      fun i hi I J h1 h2 => deleteI_any _ l B w HO.out i (i + 1) (by omega) (by omega) I J h1 h2
    obtain ⟨ao', cap', hv, -, -, -, -, hao⟩ := hrd
    simp only [Value.slice.injEq] at hv
    obtain ⟨rfl, -, rfl⟩ := hv
    rcases hao with hx | ⟨c, off, rfl, hc⟩
    · exact absurd hx hne'
    rcases hk with rfl | rfl
    · have HE : Hid (listS ⟨2, l, shut, g⟩ ⟨4, a, b⟩ = (⟨2, l.take 0 ++ l.drop (0 + 1), shut, g⟩, l.getD 0 0)) := by
        unfold listS
        rw [if_neg (by simp), if_pos rfl, if_neg h0, if_pos rfl]
        exact rfl
      rw [HE.out]
      have hc0 := hc 0 (by omega)
      rw [Nat.add_zero] at hc0
      have HDD := hide' (HD.out 0 (by omega))
      have hbk : (0 : Int) < (l.length : Int) := by omega
      generalize l.getD 0 0 = y at *
      generalize l.take 0 ++ l.drop (0 + 1) = L' at *
      clear hc HD HE h0 hne' ho hi HO
      go_enter Try.func69, Try.ntmps69
      go_wp2_with fail
      refine (HDD.out _ _ (by simp) (by simp)).mono ?_
      rintro e W1 ⟨v1, rfl, ho1, hb1⟩
      have HO1 := hide' ho1
      have HB1 := hide' hb1
      clear ho1 hb1
      go_wp2
      go_ret2
      exact ⟨_, rfl, HO1.out, HB1.out⟩
    · have HE : Hid (listS ⟨3, l, shut, g⟩ ⟨4, a, b⟩ = (⟨3, l.take (l.length - 1) ++ l.drop (l.length - 1 + 1), shut, g⟩, l.getD (l.length - 1) 0)) := by
        unfold listS
        rw [if_neg (by simp), if_pos rfl, if_neg h0, if_neg (by simp)]
        have e : l.drop (l.length - 1 + 1) = [] := List.drop_of_length_le (by omega)
        rw [e, List.append_nil]
        exact rfl
      rw [HE.out]
      have hc0 := hc (l.length - 1) (by omega)
      have HDD := hide' (HD.out (l.length - 1) (by omega))
      obtain ⟨M, hM⟩ : ∃ M, M = l.length - 1 := ⟨_, rfl⟩
      rw [← hM] at hc0 HDD ⊢
      have hlen : l.length = M + 1 := by omega
      generalize l.getD M 0 = y at *
      generalize l.take M ++ l.drop (M + 1) = L' at *
      clear hc HD HE h0 hne' ho hi HO hM hne
      rw [hlen] at HDD ⊢
      have hM64 : (M : Int) < 64 := by omega
      clear hlen h64
      go_enter Try.func69, Try.ntmps69
      go_wp2_with fail
      refine (HDD.out _ _ (by simp) (by simp)).mono ?_
      rintro e W1 ⟨v1, rfl, ho1, hb1⟩
      have HO1 := hide' ho1
      have HB1 := hide' hb1
      clear ho1 hb1
      go_wp2
      go_ret2
      exact ⟨_, rfl, HO1.out, HB1.out⟩

end Go.Proofs.Ytedfacbngefhnaa
