/- Contracts of objs: ledger, seal. -/
import Derived.Test.YtedfacbngefhnaaObjsActD
import Derived.Test.YtedfacbngefhnaaObjsActE
namespace Go.Proofs.Ytedfacbngefhnaa
open Go.RowKit

theorem hit_range {least key : Int} {l : List Int} (hp : Pairs least (-1) l) (h : hitP key l = true) : 0 ≤ key ∧ key ≤ 255 := by
  unfold hitP at h
  cases hg : getP key l with
  | none => rw [hg] at h; simp at h
  | some x =>
    have := getP_in hp hg
    omega

set_option maxRecDepth 100000 in
set_option maxHeartbeats 1000000 in
theorem ledgerO_any (v : Value) (l : List Int) (o : Opn) (shut : Bool) (g : Int) (B : Nat) (w : World) (ho : OwnI w B v l) (hB : B ≤ w.heap.size) (hp : Pairs 0 (-1) l) (hlim : l.length ≤ 128) :
    Calls Try.prog 67 #[v, opV o] w fun e w' => Acted B w v (ledgerS ⟨5, l, shut, g⟩ o).1.L (ledgerS ⟨5, l, shut, g⟩ o).2 e w' := by
  obtain ⟨code, a, b⟩ := o
  have hi := pairs_i64 (by decide) (by decide) hp
  have HO := hide' ho
  have HBA : Hid (∀ X, Mv w (w.alloc X) v v) := fun X => Mv.alloc w v X
  show Calls Try.prog _ #[_, .agg #[.int .i64 code, .int .i64 a, .int .i64 b]] w _
  by_cases c7 : code = 7
  · subst c7
    have HLK : Hid (∀ W, OwnI W B v l → Calls Try.prog 70 #[v, .int .i64 a] W fun e w' => e = .returned (.tuple #[.int .i64 ((getP a l).getD 0), .bool (hitP a l)]) ∧ Below W.heap.size W w') := fun W h => look_any v l a _ _ W (h.rd hi) hp (by omega)
    have HE : Hid (ledgerS ⟨5, l, shut, g⟩ ⟨7, a, b⟩ = (⟨5, l, shut, g⟩, hadF a l)) := by
      refine hide' ?_
      unfold ledgerS
      rw [if_neg (by simp), if_neg (by simp)]
      by_cases hk : a < 0 ∨ 255 < a
      · rw [if_pos hk]
        have hh : hitP a l = false := by
          cases h : hitP a l
          · rfl
          · have := hit_range hp h
            omega
        rw [had_miss hh]
      · rw [if_neg hk, if_pos rfl]
    rw [HE.out]
    clear HE ho hp hi
    cases hh : hitP a l
    · have HV := hide' (had_miss hh)
      rw [HV.out]
      rw [hh] at HLK
      clear HV hh
      generalize (getP a l).getD 0 = y at *
      go_enter Try.func67, Try.ntmps67
      go_wp2_with fail
      refine (HLK.out _ (HO.out.alloc _)).mono ?_
      rintro e W1 ⟨rfl, hb1⟩
      have HB1 := hide' ((HBA.out _).trans (Mv.ofBelow hb1 _))
      have HO1 := hide' ((HO.out.alloc _).below hb1 (Nat.le_refl _))
      clear hb1
      go_wp2
      go_ret2
      exact ⟨_, rfl, HO1.out, HB1.out⟩
    · have HV := hide' (had_hit hh)
      rw [HV.out]
      rw [hh] at HLK
      clear HV hh
      generalize (getP a l).getD 0 = y at *
      go_enter Try.func67, Try.ntmps67
      go_wp2_with fail
      refine (HLK.out _ (HO.out.alloc _)).mono ?_
      rintro e W1 ⟨rfl, hb1⟩
      have HB1 := hide' ((HBA.out _).trans (Mv.ofBelow hb1 _))
      have HO1 := hide' ((HO.out.alloc _).below hb1 (Nat.le_refl _))
      clear hb1
      go_wp2
      go_ret2
      exact ⟨_, rfl, HO1.out, HB1.out⟩
  · have e7 : (code == 7) = false := beq_eq_false_iff_ne.2 c7
    by_cases c8 : code = 8
    · subst c8
      have HP : Hid (∀ X, Calls Try.prog 74 #[v, .int .i64 a, .int .i64 b] (w.alloc X) fun e w' => Acted B (w.alloc X) v (ledgerS ⟨5, l, shut, g⟩ ⟨8, a, b⟩).1.L (ledgerS ⟨5, l, shut, g⟩ ⟨8, a, b⟩).2 e w') := fun X => deposit_any v l a b shut g B (w.alloc X) (HO.out.alloc X) (by simp; omega) hp hlim
      generalize (ledgerS ⟨5, l, shut, g⟩ ⟨8, a, b⟩).1.L = L' at *
      generalize (ledgerS ⟨5, l, shut, g⟩ ⟨8, a, b⟩).2 = n at *
      clear ho hi hp c7 e7
      go_enter Try.func67, Try.ntmps67
      go_wp2_with fail
      refine (HP.out _).mono ?_
      rintro e W1 ⟨v1, rfl, ho1, hb1⟩
      have HO1 := hide' ho1
      have HB1 := hide' ((HBA.out _).trans hb1)
      clear ho1 hb1
      go_wp2
      go_ret2
      exact ⟨_, rfl, HO1.out, HB1.out⟩
    · have e8 : (code == 8) = false := beq_eq_false_iff_ne.2 c8
      by_cases c9 : code = 9
      · have HE : Hid (ledgerS ⟨5, l, shut, g⟩ ⟨code, a, b⟩ = moveS ⟨5, l, shut, g⟩ ⟨code, a, b⟩) := if_pos c9
        rw [HE.out]
        have e9 : (code == 9) = true := beq_iff_eq.2 c9
        have HP : Hid (∀ X, Calls Try.prog 75 #[v, .int .i64 a, .int .i64 b] (w.alloc X) fun e w' => Acted B (w.alloc X) v (moveS ⟨5, l, shut, g⟩ ⟨code, a, b⟩).1.L (moveS ⟨5, l, shut, g⟩ ⟨code, a, b⟩).2 e w') := fun X => move_any v l code a b shut g B (w.alloc X) (HO.out.alloc X) (by simp; omega) hp hlim
        generalize (moveS ⟨5, l, shut, g⟩ ⟨code, a, b⟩).1.L = L' at *
        generalize (moveS ⟨5, l, shut, g⟩ ⟨code, a, b⟩).2 = n at *
        clear ho hi hp c7 c8 c9 HE
        go_enter Try.func67, Try.ntmps67
        go_wp2_with fail
        refine (HP.out _).mono ?_
        rintro e W1 ⟨v1, rfl, ho1, hb1⟩
        have HO1 := hide' ho1
        have HB1 := hide' ((HBA.out _).trans hb1)
        clear ho1 hb1
        go_wp2
        go_ret2
        exact ⟨_, rfl, HO1.out, HB1.out⟩
      · have e9 : (code == 9) = false := beq_eq_false_iff_ne.2 c9
        have HE : Hid (ledgerS ⟨5, l, shut, g⟩ ⟨code, a, b⟩ = (⟨5, l, shut, g⟩, 0)) := by
          refine hide' ?_
          unfold ledgerS
          rw [if_neg c9, if_pos ⟨c7, c8⟩]
        rw [HE.out]
        clear ho hi hp c7 c8 c9 HE
        go_enter Try.func67, Try.ntmps67
        go_wp2
        go_ret2
        exact ⟨_, rfl, HO.out.alloc _, HBA.out _⟩

set_option maxRecDepth 100000 in
set_option maxHeartbeats 2000000 in
theorem seal_any (kind : Int) (ao : Option Addr) (n cap : Nat) (shut : Bool) (g a : Int) (w : World) :
    Calls Try.prog 62 #[.agg #[.int .i64 kind, .slice ao n cap, .bool shut, .int .i64 g], .int .i64 a] w fun e w' => e = .returned (.agg #[.int .i64 kind, .slice ao n cap, .bool true, .int .i64 (if 0 ≤ a ∧ a ≤ 2 then a else g)]) ∧ Below w.heap.size w w' := by
  have HW := hide' (fun p q W => within_any p q W)
  have HS := hide' (fun n l2 h2 a2 b2 W p1 p2 => is_any n l2 h2 a2 b2 W p1 p2)
  have HBA : Hid (∀ x y, Below w.heap.size w ((w.alloc x).alloc y)) := fun x y => ((Below.refl _ _).alloc (Nat.le_refl _) x).alloc (by simp) y
  by_cases hk : 0 ≤ a ∧ a ≤ 2
  · rw [if_pos hk]
    have HN := hide' (decide_eq_true hk)
    clear hk
    go_enter Try.func62, Try.ntmps62
    go_wp2_with fail
    refine (HW.out _ _ _).mono ?_
    rintro e W1 ⟨a1, b1, rfl, hc1, hc2, hb1⟩
    have hbx : Box2 W1 w.heap.size _ _ := (Box2.made w _ _).below hb1 (by simp)
    have q0 := (hbx.s 0).1
    have q1 := (hbx.s 1).1
    have q2 := (hbx.s 2).1
    have q3 := (hbx.s 3).1
    have f2 := (hbx.s 2).2
    have f3 := (hbx.s 3).2
    have r0 := (hbx.r 0).1
    have r1 := (hbx.r 1).1
    have r2 := (hbx.r 2).1
    have r3 := (hbx.r 3).1
    have s0 := (hbx.r 0).2
    have s1 := (hbx.r 1).2
    have s2 := (hbx.r 2).2
    have s3 := (hbx.r 3).2
    have HB1 := hide' ((HBA.out _ _).trans (hb1.mono (HBA.out _ _).size))
    have HC1 : Hid (∀ x, (W1.setCell ⟨w.heap.size, 2, none⟩ x).cell? ⟨a1, 0, none⟩ = some (.int .i64 0)) := fun x => (World.cell?_setCell_other _ _ _ _ (by simp)).trans hc1
    have HC2 : Hid (∀ x, (W1.setCell ⟨w.heap.size, 2, none⟩ x).cell? ⟨b1, 0, none⟩ = some (.int .i64 2)) := fun x => (World.cell?_setCell_other _ _ _ _ (by simp)).trans hc2
    clear hb1 hbx hc1 hc2
    go_wp2_with fail
    refine (HS.out _ _ _ _ _ _ (HC1.out _) (HC2.out _)).mono ?_
    rintro e W2 ⟨rfl, rfl⟩
    rw [HN.out]
    go_wp2
    refine bodyPost_ret (v := .agg #[.int .i64 kind, .slice ao n cap, .bool true, .int .i64 a]) (by simp [results, Try.results62, go_sem, r0, r1, r2, r3]) rfl ?_
    exact ⟨rfl, ((((((HB1.out.setCell (Nat.le_refl _) _).setCell (Nat.le_refl _) _).setCell (Nat.le_succ _) _).setCell (Nat.le_succ _) _).setCell (Nat.le_succ _) _).setCell (Nat.le_succ _) _)⟩
  · rw [if_neg hk]
    have HN := hide' (decide_eq_false hk)
    clear hk
    go_enter Try.func62, Try.ntmps62
    go_wp2_with fail
    refine (HW.out _ _ _).mono ?_
    rintro e W1 ⟨a1, b1, rfl, hc1, hc2, hb1⟩
    have hbx : Box2 W1 w.heap.size _ _ := (Box2.made w _ _).below hb1 (by simp)
    have q0 := (hbx.s 0).1
    have q1 := (hbx.s 1).1
    have q2 := (hbx.s 2).1
    have q3 := (hbx.s 3).1
    have f2 := (hbx.s 2).2
    have f3 := (hbx.s 3).2
    have r0 := (hbx.r 0).1
    have r1 := (hbx.r 1).1
    have r2 := (hbx.r 2).1
    have r3 := (hbx.r 3).1
    have s0 := (hbx.r 0).2
    have s1 := (hbx.r 1).2
    have s2 := (hbx.r 2).2
    have s3 := (hbx.r 3).2
    have HB1 := hide' ((HBA.out _ _).trans (hb1.mono (HBA.out _ _).size))
    have HC1 : Hid (∀ x, (W1.setCell ⟨w.heap.size, 2, none⟩ x).cell? ⟨a1, 0, none⟩ = some (.int .i64 0)) := fun x => (World.cell?_setCell_other _ _ _ _ (by simp)).trans hc1
    have HC2 : Hid (∀ x, (W1.setCell ⟨w.heap.size, 2, none⟩ x).cell? ⟨b1, 0, none⟩ = some (.int .i64 2)) := fun x => (World.cell?_setCell_other _ _ _ _ (by simp)).trans hc2
    clear hb1 hbx hc1 hc2
    go_wp2_with fail
    refine (HS.out _ _ _ _ _ _ (HC1.out _) (HC2.out _)).mono ?_
    rintro e W2 ⟨rfl, rfl⟩
    rw [HN.out]
    go_wp2
    refine bodyPost_ret (v := .agg #[.int .i64 kind, .slice ao n cap, .bool true, .int .i64 g]) (by simp [results, Try.results62, go_sem, r0, r1, r2, r3]) rfl ?_
    exact ⟨rfl, (((((HB1.out.setCell (Nat.le_refl _) _).setCell (Nat.le_succ _) _).setCell (Nat.le_succ _) _).setCell (Nat.le_succ _) _).setCell (Nat.le_succ _) _)⟩

end Go.Proofs.Ytedfacbngefhnaa
