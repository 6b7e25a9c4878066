import Derived.Test.YtpopbandpnaicaaGreatDoorPack5
import Derived.Test.YtpopbandpnaicaaGreatDoorPack1
import Derived.Test.YtpopbandpnaicaaGreatDoorPack3
import Derived.ChangeSlices
import Derived.Deep.Slices
import Derived.WideShapes
namespace Go.Proofs.YtpopbandpnaicaaGreatDoor
set_option maxRecDepth 100000
open Go.RowKit

def Acted (B : Nat) (w : World) (v : Value) (L : List Int) (n : Int) (e : Ending) (w' : World) : Prop :=
 ∃ v', e = .returned (.tuple #[v', .int .i64 n]) ∧ OwnI w' B v' L ∧ Mv w w' v v'

theorem OwnI.alloc {w : World} {B : Nat} {v : Value} {l : List Int} (h : OwnI w B v l) (X : Obj) : OwnI (w.alloc X) B v l := World.ownsRow.alloc h X

theorem OwnI.single {w : World} {B : Nat} {v : Value} {l : List Int} (h : OwnI w B v l) (hl : l.length = 1) :
   ∃ g cap, v = .slice (some ⟨g, 0, none⟩) 1 cap ∧ (∀ X, (w.alloc X).cell? ⟨g, 0, none⟩ = some (.int .i64 (l.getD 0 0)) ∧ (w.alloc X).frozen? ⟨g, 0, none⟩ = false) ∧ g < w.heap.size ∧
     ∀ X n, OwnI ((w.setCell ⟨g, 0, none⟩ (.int .i64 n)).alloc X) B v [n] ∧ Mv w ((w.setCell ⟨g, 0, none⟩ (.int .i64 n)).alloc X) v v := by
 obtain ⟨g, cap, rfl, -, -, hBg, hg, -, -⟩ := h.put 0 (by omega) 0
 refine ⟨g, cap, by rw [hl], fun X => ?_, hg, fun X n => ?_⟩
 · obtain ⟨g', cap', hv, h3, h4, _⟩ := (h.alloc X).put 0 (by omega) 0
   simp only [Value.slice.injEq, Option.some.injEq, Addr.mk.injEq] at hv
   obtain ⟨⟨rfl, _⟩, _, rfl⟩ := hv
   exact ⟨h3, h4⟩
 · obtain ⟨g', cap', hv, h3, h4, _, _, h7, h8⟩ := h.put 0 (by omega) n
   simp only [Value.slice.injEq, Option.some.injEq, Addr.mk.injEq] at hv
   obtain ⟨⟨rfl, _⟩, _, rfl⟩ := hv
   have e : l.set 0 n = [n] := by
     match l, hl with
     | [_], _ => rfl
   rw [e] at h7
   exact ⟨h7.alloc X, h8.trans (Mv.alloc _ _ X)⟩

set_option maxHeartbeats 1000000 in
theorem counter_any (v : Value) (l : List Int) (o : Opn) (shut : Bool) (g : Int) (B : Nat) (w : World) (ho : OwnI w B v l) (hl : l.length = 1) (hb0 : -1099511627776 <= l.getD 0 0) (hb1 : l.getD 0 0 <= 1099511627776) :
   Calls Tryz.prog 128 #[v, opV o] w fun e w' => e = .returned (.int .i64 (oneS ⟨0, l, shut, g⟩ o).2) ∧ OwnI w' B v (oneS ⟨0, l, shut, g⟩ o).1.L ∧ Mv w w' v v := by
 obtain ⟨code, a, b⟩ := o
 have HO := hide' ho
 have HBA : Hid (∀ X, Mv w (w.alloc X) v v) := fun X => Mv.alloc w v X
 have HC := hide' (fun n w => cutO_any n w)
 obtain ⟨c, cap, rfl, hcell, hlt, hput⟩ := ho.single hl
 have HPT := hide' hput
 have hc := fun X => (hcell X).1
 have hf := fun X => (hcell X).2
 clear hput ho hcell
 obtain ⟨n, hn⟩ : ∃ n, n = l.getD 0 0 := ⟨_, rfl⟩
 rw [<- hn] at hb0 hb1
 simp only [<- hn] at hc
 have HN := hide' hn
 have hca := cutZ_in a
 clear hn hl
 show Calls Tryz.prog _ #[_, .agg #[.int .i64 code, .int .i64 a, .int .i64 b]] w _
 by_cases c1 : code = 1
 · subst c1
   have HE : Hid (oneS ⟨0, l, shut, g⟩ ⟨1, a, b⟩ = (⟨0, [cutZ (n + cutZ a)], shut, g⟩, n)) := by rw [HN.out]; exact if_pos ⟨rfl, rfl⟩
   rw [HE.out]
   go_enter Tryz.func128, Tryz.ntmps128
   go_wp2_with (first | (go_at_call 176; refine (HC.out _ _).mono ?_; rintro e w2 ⟨rfl, rfl⟩))
   go_ret
   exact ⟨rfl, HPT.out _ _⟩
 · have e1 : (code == 1) = false := beq_eq_false_iff_ne.2 c1
   by_cases c7 : code = 7
   · have e7 : (code == 7) = true := beq_iff_eq.2 c7
     have HE : Hid (oneS ⟨0, l, shut, g⟩ ⟨code, a, b⟩ = (⟨0, l, shut, g⟩, n)) := by
       rw [HN.out]
       unfold oneS
       rw [if_neg (by simp; omega), if_neg (by simp), if_pos c7]
       exact rfl
     rw [HE.out]
     clear c1 c7
     go_enter Tryz.func128, Tryz.ntmps128
     go_wp2
     go_ret
     exact ⟨rfl, HO.out.alloc _, HBA.out _⟩
   · have e7 : (code == 7) = false := beq_eq_false_iff_ne.2 c7
     have HE : Hid (oneS ⟨0, l, shut, g⟩ ⟨code, a, b⟩ = (⟨0, l, shut, g⟩, 0)) := by
       unfold oneS
       rw [if_neg (by simp; omega), if_neg (by simp), if_neg c7]
       exact rfl
     rw [HE.out]
     clear c1 c7
     go_enter Tryz.func128, Tryz.ntmps128
     go_wp2
     go_ret
     exact ⟨rfl, HO.out.alloc _, HBA.out _⟩

set_option maxHeartbeats 1000000 in
theorem register_any (v : Value) (l : List Int) (o : Opn) (shut : Bool) (g : Int) (B : Nat) (w : World) (ho : OwnI w B v l) (hl : l.length = 1) :
   Calls Tryz.prog 129 #[v, opV o] w fun e w' => e = .returned (.int .i64 (oneS ⟨1, l, shut, g⟩ o).2) ∧ OwnI w' B v (oneS ⟨1, l, shut, g⟩ o).1.L ∧ Mv w w' v v := by
 obtain ⟨code, a, b⟩ := o
 have HO := hide' ho
 have HBA : Hid (∀ X, Mv w (w.alloc X) v v) := fun X => Mv.alloc w v X
 have HC := hide' (fun n w => cutO_any n w)
 obtain ⟨c, cap, rfl, hcell, hlt, hput⟩ := ho.single hl
 have HPT := hide' hput
 have hc := fun X => (hcell X).1
 have hf := fun X => (hcell X).2
 clear hput ho hcell
 obtain ⟨n, hn⟩ : ∃ n, n = l.getD 0 0 := ⟨_, rfl⟩
 simp only [<- hn] at hc
 have HN := hide' hn
 clear hn hl
 show Calls Tryz.prog _ #[_, .agg #[.int .i64 code, .int .i64 a, .int .i64 b]] w _
 by_cases c1 : code = 2
 · subst c1
   have HE : Hid (oneS ⟨1, l, shut, g⟩ ⟨2, a, b⟩ = (⟨1, [cutZ a], shut, g⟩, n)) := by rw [HN.out]; exact rfl
   rw [HE.out]
   go_enter Tryz.func129, Tryz.ntmps129
   go_wp2_with (first | (go_at_call 176; refine (HC.out _ _).mono ?_; rintro e w2 ⟨rfl, rfl⟩))
   go_ret
   exact ⟨rfl, HPT.out _ _⟩
 · have e1 : (code == 2) = false := beq_eq_false_iff_ne.2 c1
   by_cases c7 : code = 7
   · have e7 : (code == 7) = true := beq_iff_eq.2 c7
     have HE : Hid (oneS ⟨1, l, shut, g⟩ ⟨code, a, b⟩ = (⟨1, l, shut, g⟩, n)) := by
       rw [HN.out]
       unfold oneS
       rw [if_neg (by simp), if_neg (by simp; omega), if_pos c7]
       exact rfl
     rw [HE.out]
     clear c1 c7
     go_enter Tryz.func129, Tryz.ntmps129
     go_wp2
     go_ret
     exact ⟨rfl, HO.out.alloc _, HBA.out _⟩
   · have e7 : (code == 7) = false := beq_eq_false_iff_ne.2 c7
     have HE : Hid (oneS ⟨1, l, shut, g⟩ ⟨code, a, b⟩ = (⟨1, l, shut, g⟩, 0)) := by
       unfold oneS
       rw [if_neg (by simp), if_neg (by simp; omega), if_neg c7]
       exact rfl
     rw [HE.out]
     clear c1 c7
     go_enter Tryz.func129, Tryz.ntmps129
     go_wp2
     go_ret
     exact ⟨rfl, HO.out.alloc _, HBA.out _⟩

set_option maxHeartbeats 1000000 in
theorem pop_any (kind : Int) (hk : kind = 2 ∨ kind = 3) (v : Value) (l : List Int) (shut : Bool) (g a b : Int) (B : Nat) (w : World) (ho : OwnI w B v l) (hi : ∀ x ∈ l, I64 x) (h64 : l.length <= 64) :
   Calls Tryz.prog 177 #[.int .i64 kind, v] w fun e w' => Acted B w v (listS ⟨kind, l, shut, g⟩ ⟨4, a, b⟩).1.L (listS ⟨kind, l, shut, g⟩ ⟨4, a, b⟩).2 e w' := by
 have HO := hide' ho
 have hsh := ho.shape
 by_cases h0 : l.length = 0
 · have HE : Hid (listS ⟨kind, l, shut, g⟩ ⟨4, a, b⟩ = (⟨kind, l, shut, g⟩, -1)) := by
     unfold listS
     rw [if_neg (by simp), if_pos rfl, if_pos h0]
     exact rfl
   rw [HE.out]
   obtain ⟨ao, cap, rfl⟩ := hsh
   rw [h0]
   have HO0 : Hid (OwnI w B (.slice ao 0 cap) l) := by
     have h := HO.out
     rwa [h0] at h
   clear HO ho h0 HE hi h64
   go_enter Tryz.func177, Tryz.ntmps177
   go_wp2
   go_ret2
   exact ⟨_, rfl, HO0.out, Mv.refl _ _⟩
 · have hne : ((l.length : Int) == 0) = false := beq_eq_false_iff_ne.2 (by omega)
   have hne' : l ≠ [] := fun h => h0 (by rw [h]; rfl)
   have hrd := ho.rd hi
   obtain ⟨ao, cap, rfl⟩ := hsh
   have HD : Hid (∀ i : Nat, i < l.length -> ∀ I J, I = (i : Int) -> J = ((i + 1 : Nat) : Int) -> Calls Tryz.prog 213 #[.slice ao l.length cap, .int .i64 I, .int .i64 J] w fun e w' => ∃ v', e = .returned v' ∧ OwnI w' B v' (l.take i ++ l.drop (i + 1)) ∧ Mv w w' (.slice ao l.length cap) v') :=
     fun i hi I J h1 h2 => deleteI_any _ l B w HO.out i (i + 1) (by omega) (by omega) I J h1 h2
   obtain ⟨ao', cap', hv, -, -, -, -, hao⟩ := hrd
   simp only [Value.slice.injEq] at hv
   obtain ⟨rfl, -, rfl⟩ := hv
   rcases hao with hx | ⟨c, off, rfl, hc⟩
   · exact absurd hx hne'
   rcases hk with rfl | rfl
   · have HE : Hid (listS ⟨2, l, shut, g⟩ ⟨4, a, b⟩ = (⟨2, l.take 0 ++ l.drop (0 + 1), shut, g⟩, l.getD 0 0)) := by
       unfold listS
       rw [if_neg (by simp), if_pos rfl, if_neg h0, if_pos rfl]
       exact rfl
     rw [HE.out]
     have hc0 := hc 0 (by omega)
     rw [Nat.add_zero] at hc0
     have HDD := hide' (HD.out 0 (by omega))
     have hbk : (0 : Int) < (l.length : Int) := by omega
     generalize l.getD 0 0 = y at *
     generalize l.take 0 ++ l.drop (0 + 1) = L' at *
     clear hc HD HE h0 hne' ho hi HO
     go_enter Tryz.func177, Tryz.ntmps177
     go_wp2_with fail
     refine (HDD.out _ _ (by simp) (by simp)).mono ?_
     rintro e W1 ⟨v1, rfl, ho1, hb1⟩
     have HO1 := hide' ho1
     have HB1 := hide' hb1
     clear ho1 hb1
     go_wp2
     go_ret2
     exact ⟨_, rfl, HO1.out, HB1.out⟩
   · have HE : Hid (listS ⟨3, l, shut, g⟩ ⟨4, a, b⟩ = (⟨3, l.take (l.length - 1) ++ l.drop (l.length - 1 + 1), shut, g⟩, l.getD (l.length - 1) 0)) := by
       unfold listS
       rw [if_neg (by simp), if_pos rfl, if_neg h0, if_neg (by simp)]
       have e : l.drop (l.length - 1 + 1) = [] := List.drop_of_length_le (by omega)
       rw [e, List.append_nil]
       exact rfl
     rw [HE.out]
     have hc0 := hc (l.length - 1) (by omega)
     have HDD := hide' (HD.out (l.length - 1) (by omega))
     obtain ⟨M, hM⟩ : ∃ M, M = l.length - 1 := ⟨_, rfl⟩
     rw [<- hM] at hc0 HDD ⊢
     have hlen : l.length = M + 1 := by omega
     generalize l.getD M 0 = y at *
     generalize l.take M ++ l.drop (M + 1) = L' at *
     clear hc HD HE h0 hne' ho hi HO hM hne
     rw [hlen] at HDD ⊢
     have hM64 : (M : Int) < 64 := by omega
     clear hlen h64
     go_enter Tryz.func177, Tryz.ntmps177
     go_wp2_with fail
     refine (HDD.out _ _ (by simp) (by simp)).mono ?_
     rintro e W1 ⟨v1, rfl, ho1, hb1⟩
     have HO1 := hide' ho1
     have HB1 := hide' hb1
     clear ho1 hb1
     go_wp2
     go_ret2
     exact ⟨_, rfl, HO1.out, HB1.out⟩

theorem ret_vi {v : Value} {a b : Int} (h : a = b) : Ending.returned (.tuple #[v, .int .i64 a]) = .returned (.tuple #[v, .int .i64 b]) := by rw [h]

set_option maxRecDepth 100000 in
set_option maxHeartbeats 1000000 in
theorem line_any (kind : Int) (hk : kind = 2 ∨ kind = 3) (v : Value) (l : List Int) (o : Opn) (shut : Bool) (g : Int) (B : Nat) (w : World) (ho : OwnI w B v l) (hB : B <= w.heap.size) (hi : ∀ x ∈ l, I64 x) (h64 : l.length <= 64) :
   Calls Tryz.prog 130 #[.int .i64 kind, v, opV o] w fun e w' => Acted B w v (listS ⟨kind, l, shut, g⟩ o).1.L (listS ⟨kind, l, shut, g⟩ o).2 e w' := by
 obtain ⟨code, a, b⟩ := o
 have HO := hide' ho
 have HBA : Hid (∀ X, Mv w (w.alloc X) v v) := fun X => Mv.alloc w v X
 have HC := hide' (fun n w => cutO_any n w)
 show Calls Tryz.prog _ #[_, _, .agg #[.int .i64 code, .int .i64 a, .int .i64 b]] w _
 by_cases c3 : code = 3
 · subst c3
   obtain ⟨ao, cap, rfl⟩ := ho.shape
   by_cases hf : l.length = 64
   · have HE : Hid (listS ⟨kind, l, shut, g⟩ ⟨3, a, b⟩ = (⟨kind, l, shut, g⟩, -1)) := by
       unfold listS
       rw [if_pos rfl, if_pos hf]
       exact rfl
     rw [HE.out]
     have hq : ((l.length : Int) == 64) = true := beq_iff_eq.2 (by omega)
     clear hf HE ho hi h64 hk
     go_enter Tryz.func130, Tryz.ntmps130
     go_wp2
     go_ret2
     exact ⟨_, rfl, HO.out.alloc _, HBA.out _⟩
   · have HE : Hid (listS ⟨kind, l, shut, g⟩ ⟨3, a, b⟩ = (⟨kind, l ++ [cutZ a], shut, g⟩, (l.length : Int) + 1)) := by
       unfold listS
       rw [if_pos rfl, if_neg hf]
       exact rfl
     rw [HE.out]
     have hq : ((l.length : Int) == 64) = false := beq_eq_false_iff_ne.2 (by omega)
     obtain ⟨L', hL'⟩ : ∃ L', L' = l ++ [cutZ a] := ⟨_, rfl⟩
     rw [<- hL']
     have HLL := hide' hL'
     have HL : Hid ((L'.length : Int) = (l.length : Int) + 1) := by rw [hL', List.length_append]; exact rfl
     clear hf HE ho hi hk hL'
     go_enter Tryz.func130, Tryz.ntmps130
     go_wp2_with (first | (go_at_call 176; refine (HC.out _ _).mono ?_; rintro e w2 ⟨rfl, rfl⟩) | (at_builtin; refine wpList_append_intg _ rfl _ _ rfl B _ l rfl (HO.out.alloc _) _ _ rfl (by simp [Act.eval]) (by omega) (by simp; omega) ?_))
     intro v1 W1 ho1 hg1 ha1
     have hb1 := Mv.app hg1 (by simp) ha1
     clear hg1 ha1
     rw [<- HLL.out] at ho1
     have HO1 := hide' ho1
     obtain ⟨ao1, cap1, rfl⟩ := ho1.shape
     have HB1 := hide' ((HBA.out _).trans hb1)
     clear ho1 hb1
     go_wp2
     go_ret2
     exact ⟨_, ret_vi HL.out, HO1.out, HB1.out⟩
 · have e3 : (code == 3) = false := beq_eq_false_iff_ne.2 c3
   by_cases c4 : code = 4
   · subst c4
     have HP : Hid (∀ X, Calls Tryz.prog 177 #[.int .i64 kind, v] (w.alloc X) fun e w' => Acted B (w.alloc X) v (listS ⟨kind, l, shut, g⟩ ⟨4, a, b⟩).1.L (listS ⟨kind, l, shut, g⟩ ⟨4, a, b⟩).2 e w') := fun X => pop_any kind hk v l shut g a b B (w.alloc X) (HO.out.alloc X) hi h64
     generalize (listS ⟨kind, l, shut, g⟩ ⟨4, a, b⟩).1.L = L' at *
     generalize (listS ⟨kind, l, shut, g⟩ ⟨4, a, b⟩).2 = n at *
     clear ho hi h64 hk c3 e3
     go_enter Tryz.func130, Tryz.ntmps130
     go_wp2_with fail
     refine (HP.out _).mono ?_
     rintro e W1 ⟨v1, rfl, ho1, hb1⟩
     have HO1 := hide' ho1
     have HB1 := hide' ((HBA.out _).trans hb1)
     clear ho1 hb1
     go_wp2
     go_ret2
     exact ⟨_, rfl, HO1.out, HB1.out⟩
   · have e4 : (code == 4) = false := beq_eq_false_iff_ne.2 c4
     obtain ⟨ao, cap, rfl⟩ := ho.shape
     by_cases c7 : code = 7
     · have e7 : (code == 7) = true := beq_iff_eq.2 c7
       have HE : Hid (listS ⟨kind, l, shut, g⟩ ⟨code, a, b⟩ = (⟨kind, l, shut, g⟩, (l.length : Int))) := by
         unfold listS
         rw [if_neg c3, if_neg c4, if_pos c7]
         exact rfl
       rw [HE.out]
       clear ho hi h64 hk c3 c4 c7 HE
       go_enter Tryz.func130, Tryz.ntmps130
       go_wp2
       go_ret2
       exact ⟨_, rfl, HO.out.alloc _, HBA.out _⟩
     · have e7 : (code == 7) = false := beq_eq_false_iff_ne.2 c7
       have HE : Hid (listS ⟨kind, l, shut, g⟩ ⟨code, a, b⟩ = (⟨kind, l, shut, g⟩, 0)) := by
         unfold listS
         rw [if_neg c3, if_neg c4, if_neg c7]
         exact rfl
       rw [HE.out]
       clear ho hi h64 hk c3 c4 c7 HE
       go_enter Tryz.func130, Tryz.ntmps130
       go_wp2
       go_ret2
       exact ⟨_, rfl, HO.out.alloc _, HBA.out _⟩

theorem OwnI.drew {w : World} {B : Nat} {v : Value} {l : List Int} (h : OwnI w B v l) : OwnI w.drew B v l := h

theorem hit_find (key : Int) (l : List Int) : findF key 0 l < 0 ↔ hitP key l = false := by
 rw [find_none]
 unfold hitP
 cases getP key l <;> simp

theorem had_hit {key : Int} {l : List Int} (h : hitP key l = true) : hadF key l = (getP key l).getD 0 := by
 rw [had_get]
 unfold hitP at h
 cases hg : getP key l with
 | none => rw [hg] at h; simp at h
 | some x => rfl

theorem had_miss {key : Int} {l : List Int} (h : hitP key l = false) : hadF key l = -1 := by
 rw [had_get]
 unfold hitP at h
 cases hg : getP key l with
 | none => rfl
 | some x => rw [hg] at h; simp at h

set_option maxRecDepth 100000 in
set_option maxHeartbeats 1000000 in
theorem storeO_any (v : Value) (l : List Int) (o : Opn) (shut : Bool) (g : Int) (B : Nat) (w : World) (ho : OwnI w B v l) (hB : B <= w.heap.size) (hp : Pairs (-1099511627776) (-1) l) (hlim : l.length <= 128) :
   Calls Tryz.prog 131 #[v, opV o] w fun e w' => Acted B w v (storeO ⟨4, l, shut, g⟩ o).1.L (storeO ⟨4, l, shut, g⟩ o).2 e w' := by
 obtain ⟨code, a, b⟩ := o
 have hi := pairs_i64 (by decide) (by decide) hp
 have HO := hide' ho
 have HBA : Hid (∀ X, Mv w (w.alloc X) v v) := fun X => Mv.alloc w v X
 have HC := hide' (fun n w => cutO_any n w)
 have HW := hide' (fun p q W => within_any p q W)
 have HS := hide' (fun n l2 h2 a2 b2 W p1 p2 => is_any n l2 h2 a2 b2 W p1 p2)
 have HLK : Hid (∀ W, OwnI W B v l -> Calls Tryz.prog 178 #[v, .int .i64 a] W fun e w' => e = .returned (.tuple #[.int .i64 ((getP a l).getD 0), .bool (hitP a l)]) ∧ Below W.heap.size W w') := fun W h => look_any v l a _ _ W (h.rd hi) hp (by omega)
 have HPT : Hid (∀ n W, OwnI W B v l -> B <= W.heap.size -> Calls Tryz.prog 181 #[v, .int .i64 a, .int .i64 n] W fun e w' => ∃ v', e = .returned v' ∧ OwnI w' B v' (withF a n false l) ∧ Mv W w' v v') := fun n W h1 h2 => putO_any v l a n _ _ B W h1 h2 hi hp (by omega)
 have HDR : Hid (∀ W, OwnI W B v l -> B <= W.heap.size -> Calls Tryz.prog 179 #[v, .int .i64 a] W fun e w' => ∃ v', e = .returned v' ∧ OwnI w' B v' (withoutF a l) ∧ Mv W w' v v') := fun W h1 _ => drop_any v l a _ _ B W h1 hi hp (by omega)
 obtain ⟨ao, cap, rfl⟩ := ho.shape
 have HFU : Hid (∀ W, Calls Tryz.prog 180 #[.slice ao l.length cap] W fun e w' => e = .returned (.bool (decide (l.length = 128))) ∧ w' = W) := fun W => full_any ao l.length cap W
 obtain ⟨L', n', hE⟩ : ∃ L' n', storeO ⟨4, l, shut, g⟩ ⟨code, a, b⟩ = (⟨4, L', shut, g⟩, n') := by
   unfold storeO
   repeat' split
   all_goals exact ⟨_, _, rfl⟩
 rw [hE]
 have HE := hide' hE
 clear hE ho hp hi
 show Calls Tryz.prog _ #[_, .agg #[.int .i64 code, .int .i64 a, .int .i64 b]] w fun e w' => Acted B w (.slice ao l.length cap) L' n' e w'
 by_cases hk : 0 <= a ∧ a <= 255
 · have HN := hide' (decide_eq_true hk)
   have HK : Hid (¬ (a < 0 ∨ 255 < a)) := by
     show ¬ (a < 0 ∨ 255 < a)
     omega
   clear hk
   cases hh : hitP a l
   · have HHF := hide' ((hit_find a l).2 hh)
     have HHD := hide' (had_miss hh)
     rw [hh] at HLK
     clear hh
     generalize (getP a l).getD 0 = y at *
     go_enter Tryz.func131, Tryz.ntmps131
     go_wp2_with fail
     refine (HW.out _ _ _).mono ?_
     rintro e W1 ⟨a1, b1, rfl, hc1, hc2, hb1⟩
     have hbx := (hb1.block w.heap.size (by simp)).trans (heap_alloc_new w _)
     have p1 := cell_of_row W1 w.heap.size 1 _ _ _ hbx
     have HX1 := hide' hbx
     have HB1 := hide' ((HBA.out _).trans (Mv.ofBelow hb1 _))
     have HO1 := hide' ((HO.out.alloc _).below hb1 (Nat.le_refl _))
     clear hb1 hbx
     go_wp2_with fail
     refine (HS.out _ _ _ _ _ _ hc1 hc2).mono ?_
     rintro e W2 ⟨rfl, rfl⟩
     rw [HN.out]
     clear hc1 hc2
     go_wp2_with fail
     refine (HLK.out _ HO1.out).mono ?_
     rintro e W2 ⟨rfl, hb2⟩
     have hbx := (hb2.block w.heap.size (Array.getElem?_eq_some_iff.1 HX1.out).1).trans HX1.out
     have p0 := cell_of_row W2 w.heap.size 0 _ _ _ hbx
     have q1 := cell_of_row W2 w.heap.size 1 _ _ _ hbx
     have q2 := cell_of_row W2 w.heap.size 2 _ _ _ hbx
     have HB2 := hide' (HB1.out.trans (Mv.ofBelow hb2 _))
     have HO2 := hide' (HO1.out.below hb2 (Nat.le_refl _))
     have hB2 : B <= W2.heap.size := Nat.le_trans hB HB2.out.size
     clear hb2 hbx HX1 HB1 HO1 p1
     by_cases c7 : code = 7
     · have HR : Hid (L' = l ∧ n' = -1) := by
         have h := HE.out
         unfold storeO at h
         rw [if_neg HK.out, if_neg (show ¬ (code ≠ 7 ∧ code ≠ 6 ∧ code ≠ 5) by omega), if_neg (show ¬ code = 6 by omega), if_neg (show ¬ code = 5 by omega), HHD.out] at h
         injection h with h1 h2
         injection h1 with _ h3
         exact ⟨h3.symm, h2.symm⟩
       have e7 : (code == 7) = true := beq_iff_eq.2 c7
       clear c7
       go_wp2
       go_ret2
       exact ⟨_, ret_vi HR.out.2.symm, by rw [HR.out.1]; exact HO2.out, HB2.out⟩
     · have e7 : (code == 7) = false := beq_eq_false_iff_ne.2 c7
       by_cases c6 : code = 6
       · have HR : Hid (L' = withoutF a l ∧ n' = -1) := by
           have h := HE.out
           unfold storeO at h
           rw [if_neg HK.out, if_neg (show ¬ (code ≠ 7 ∧ code ≠ 6 ∧ code ≠ 5) by omega), if_pos (show code = 6 by omega), HHD.out] at h
           injection h with h1 h2
           injection h1 with _ h3
           exact ⟨h3.symm, h2.symm⟩
         have e6 : (code == 6) = true := beq_iff_eq.2 c6
         clear c6 c7
         go_wp2_with fail
         refine (HDR.out _ HO2.out hB2).mono ?_
         rintro e W3 ⟨v3, rfl, ho3, hb3⟩
         have HB3 := hide' (HB2.out.trans hb3)
         have HO3 := hide' ho3
         clear ho3 hb3
         go_wp2
         go_ret2
         exact ⟨_, ret_vi HR.out.2.symm, by rw [HR.out.1]; exact HO3.out, HB3.out⟩
       · have e6 : (code == 6) = false := beq_eq_false_iff_ne.2 c6
         by_cases c5 : code = 5
         · have e5 : (code == 5) = true := beq_iff_eq.2 c5
           by_cases hf : l.length = 128
           · have HR : Hid (L' = l ∧ n' = -2) := by
               have h := HE.out
               unfold storeO at h
               rw [if_neg HK.out, if_neg (show ¬ (code ≠ 7 ∧ code ≠ 6 ∧ code ≠ 5) by omega), if_neg (show ¬ code = 6 by omega), if_pos c5, if_pos ⟨HHF.out, hf⟩] at h
               injection h with h1 h2
               injection h1 with _ h3
               exact ⟨h3.symm, h2.symm⟩
             have HFD := hide' (decide_eq_true hf)
             clear c5 c6 c7 hf
             go_wp2_with fail
             refine (HFU.out _).mono ?_
             rintro e W3 ⟨rfl, rfl⟩
             rw [HFD.out]
             go_wp2
             go_ret2
             exact ⟨_, ret_vi HR.out.2.symm, by rw [HR.out.1]; exact HO2.out, HB2.out⟩
           · have HR : Hid (L' = withF a (cutZ b) false l ∧ n' = -1) := by
               have h := HE.out
               unfold storeO at h
               rw [if_neg HK.out, if_neg (show ¬ (code ≠ 7 ∧ code ≠ 6 ∧ code ≠ 5) by omega), if_neg (show ¬ code = 6 by omega), if_pos c5, if_neg (fun h => hf h.2), HHD.out] at h
               injection h with h1 h2
               injection h1 with _ h3
               exact ⟨h3.symm, h2.symm⟩
             have HFD := hide' (decide_eq_false hf)
             clear hf
             clear c5 c6 c7
             go_wp2_with fail
             refine (HFU.out _).mono ?_
             rintro e W3 ⟨rfl, rfl⟩
             rw [HFD.out]
             go_wp2
             go_region_with
               (first
                 | (go_at_call 176; refine (HC.out _ _).mono ?_; rintro e w3 ⟨rfl, rfl⟩)
                 | (go_at_call 181; refine (HPT.out _ _ HO2.out.drew hB2).mono ?_; rintro e W3 ⟨v3, rfl, ho3, hb3⟩; have HB3 := hide' (HB2.out.drew.trans hb3); have HO3 := hide' ho3; clear ho3 hb3))
             all_goals
               go_wp2
               go_ret2
               exact ⟨_, ret_vi HR.out.2.symm, by rw [HR.out.1]; exact HO3.out, HB3.out⟩
             
         · have e5 : (code == 5) = false := beq_eq_false_iff_ne.2 c5
           have HR : Hid (L' = l ∧ n' = 0) := by
             have h := HE.out
             unfold storeO at h
             rw [if_neg HK.out, if_pos (show (code ≠ 7 ∧ code ≠ 6 ∧ code ≠ 5) by omega)] at h
             injection h with h1 h2
             injection h1 with _ h3
             exact ⟨h3.symm, h2.symm⟩
           clear c5 c6 c7
           go_wp2
           go_ret2
           exact ⟨_, ret_vi HR.out.2.symm, by rw [HR.out.1]; exact HO2.out, HB2.out⟩
   · have HHF : Hid (¬ findF a 0 l < 0) := fun h => by rw [(hit_find a l).1 h] at hh; cases hh
     have HHD := hide' (had_hit hh)
     rw [hh] at HLK
     clear hh
     generalize (getP a l).getD 0 = y at *
     go_enter Tryz.func131, Tryz.ntmps131
     go_wp2_with fail
     refine (HW.out _ _ _).mono ?_
     rintro e W1 ⟨a1, b1, rfl, hc1, hc2, hb1⟩
     have hbx := (hb1.block w.heap.size (by simp)).trans (heap_alloc_new w _)
     have p1 := cell_of_row W1 w.heap.size 1 _ _ _ hbx
     have HX1 := hide' hbx
     have HB1 := hide' ((HBA.out _).trans (Mv.ofBelow hb1 _))
     have HO1 := hide' ((HO.out.alloc _).below hb1 (Nat.le_refl _))
     clear hb1 hbx
     go_wp2_with fail
     refine (HS.out _ _ _ _ _ _ hc1 hc2).mono ?_
     rintro e W2 ⟨rfl, rfl⟩
     rw [HN.out]
     clear hc1 hc2
     go_wp2_with fail
     refine (HLK.out _ HO1.out).mono ?_
     rintro e W2 ⟨rfl, hb2⟩
     have hbx := (hb2.block w.heap.size (Array.getElem?_eq_some_iff.1 HX1.out).1).trans HX1.out
     have p0 := cell_of_row W2 w.heap.size 0 _ _ _ hbx
     have q1 := cell_of_row W2 w.heap.size 1 _ _ _ hbx
     have q2 := cell_of_row W2 w.heap.size 2 _ _ _ hbx
     have HB2 := hide' (HB1.out.trans (Mv.ofBelow hb2 _))
     have HO2 := hide' (HO1.out.below hb2 (Nat.le_refl _))
     have hB2 : B <= W2.heap.size := Nat.le_trans hB HB2.out.size
     clear hb2 hbx HX1 HB1 HO1 p1
     by_cases c7 : code = 7
     · have HR : Hid (L' = l ∧ n' = y) := by
         have h := HE.out
         unfold storeO at h
         rw [if_neg HK.out, if_neg (show ¬ (code ≠ 7 ∧ code ≠ 6 ∧ code ≠ 5) by omega), if_neg (show ¬ code = 6 by omega), if_neg (show ¬ code = 5 by omega), HHD.out] at h
         injection h with h1 h2
         injection h1 with _ h3
         exact ⟨h3.symm, h2.symm⟩
       have e7 : (code == 7) = true := beq_iff_eq.2 c7
       clear c7
       go_wp2
       go_ret2
       exact ⟨_, ret_vi HR.out.2.symm, by rw [HR.out.1]; exact HO2.out, HB2.out⟩
     · have e7 : (code == 7) = false := beq_eq_false_iff_ne.2 c7
       by_cases c6 : code = 6
       · have HR : Hid (L' = withoutF a l ∧ n' = y) := by
           have h := HE.out
           unfold storeO at h
           rw [if_neg HK.out, if_neg (show ¬ (code ≠ 7 ∧ code ≠ 6 ∧ code ≠ 5) by omega), if_pos (show code = 6 by omega), HHD.out] at h
           injection h with h1 h2
           injection h1 with _ h3
           exact ⟨h3.symm, h2.symm⟩
         have e6 : (code == 6) = true := beq_iff_eq.2 c6
         clear c6 c7
         go_wp2_with fail
         refine (HDR.out _ HO2.out hB2).mono ?_
         rintro e W3 ⟨v3, rfl, ho3, hb3⟩
         have HB3 := hide' (HB2.out.trans hb3)
         have HO3 := hide' ho3
         clear ho3 hb3
         go_wp2
         go_ret2
         exact ⟨_, ret_vi HR.out.2.symm, by rw [HR.out.1]; exact HO3.out, HB3.out⟩
       · have e6 : (code == 6) = false := beq_eq_false_iff_ne.2 c6
         by_cases c5 : code = 5
         · have e5 : (code == 5) = true := beq_iff_eq.2 c5
           have HR : Hid (L' = withF a (cutZ b) false l ∧ n' = y) := by
             have h := HE.out
             unfold storeO at h
             rw [if_neg HK.out, if_neg (show ¬ (code ≠ 7 ∧ code ≠ 6 ∧ code ≠ 5) by omega), if_neg (show ¬ code = 6 by omega), if_pos c5, if_neg (fun h => absurd (show findF a 0 l < 0 from h.1) (by have := HHF.out; omega)), HHD.out] at h
             injection h with h1 h2
             injection h1 with _ h3
             exact ⟨h3.symm, h2.symm⟩
           clear c5 c6 c7
           go_wp2
           go_region_with
             (first
               | (go_at_call 176; refine (HC.out _ _).mono ?_; rintro e w3 ⟨rfl, rfl⟩)
               | (go_at_call 181; refine (HPT.out _ _ HO2.out.drew hB2).mono ?_; rintro e W3 ⟨v3, rfl, ho3, hb3⟩; have HB3 := hide' (HB2.out.drew.trans hb3); have HO3 := hide' ho3; clear ho3 hb3))
           all_goals
             go_wp2
             go_ret2
             exact ⟨_, ret_vi HR.out.2.symm, by rw [HR.out.1]; exact HO3.out, HB3.out⟩
         · have e5 : (code == 5) = false := beq_eq_false_iff_ne.2 c5
           have HR : Hid (L' = l ∧ n' = 0) := by
             have h := HE.out
             unfold storeO at h
             rw [if_neg HK.out, if_pos (show (code ≠ 7 ∧ code ≠ 6 ∧ code ≠ 5) by omega)] at h
             injection h with h1 h2
             injection h1 with _ h3
             exact ⟨h3.symm, h2.symm⟩
           clear c5 c6 c7
           go_wp2
           go_ret2
           exact ⟨_, ret_vi HR.out.2.symm, by rw [HR.out.1]; exact HO2.out, HB2.out⟩
 · have HN := hide' (decide_eq_false hk)
   have HR : Hid (L' = l ∧ n' = -1) := by
     have h := HE.out
     unfold storeO at h
     rw [if_pos (show a < 0 ∨ 255 < a by omega)] at h
     injection h with h1 h2
     injection h1 with _ h3
     exact ⟨h3.symm, h2.symm⟩
   clear hk
   go_enter Tryz.func131, Tryz.ntmps131
   go_wp2_with fail
   refine (HW.out _ _ _).mono ?_
   rintro e W1 ⟨a1, b1, rfl, hc1, hc2, hb1⟩
   have hbx := (hb1.block w.heap.size (by simp)).trans (heap_alloc_new w _)
   have p1 := cell_of_row W1 w.heap.size 1 _ _ _ hbx
   have HX1 := hide' hbx
   have HB1 := hide' ((HBA.out _).trans (Mv.ofBelow hb1 _))
   have HO1 := hide' ((HO.out.alloc _).below hb1 (Nat.le_refl _))
   clear hb1 hbx
   go_wp2_with fail
   refine (HS.out _ _ _ _ _ _ hc1 hc2).mono ?_
   rintro e W2 ⟨rfl, rfl⟩
   rw [HN.out]
   clear hc1 hc2
   go_wp2
   go_ret2
   exact ⟨_, ret_vi HR.out.2.symm, by rw [HR.out.1]; exact HO1.out, HB1.out⟩

set_option maxRecDepth 100000 in
set_option maxHeartbeats 1000000 in
theorem deposit_any (v : Value) (l : List Int) (a b : Int) (shut : Bool) (g : Int) (B : Nat) (w : World) (ho : OwnI w B v l) (hB : B <= w.heap.size) (hp : Pairs 0 (-1) l) (hlim : l.length <= 128) :
   Calls Tryz.prog 182 #[v, .int .i64 a, .int .i64 b] w fun e w' => Acted B w v (ledgerS ⟨5, l, shut, g⟩ ⟨8, a, b⟩).1.L (ledgerS ⟨5, l, shut, g⟩ ⟨8, a, b⟩).2 e w' := by
 have hi := pairs_i64 (by decide) (by decide) hp
 have HO := hide' ho
 have HC := hide' (fun n w => cutO_any n w)
 have HW := hide' (fun p q W => within_any p q W)
 have HS := hide' (fun n l2 h2 a2 b2 W p1 p2 => is_any n l2 h2 a2 b2 W p1 p2)
 have HLK : Hid (∀ W, OwnI W B v l -> Calls Tryz.prog 178 #[v, .int .i64 a] W fun e w' => e = .returned (.tuple #[.int .i64 (hasF a l), .bool (hitP a l)]) ∧ Below W.heap.size W w') := fun W h => by
   rw [has_get]
   exact look_any v l a _ _ W (h.rd hi) hp (by omega)
 have HPT : Hid (∀ n W, OwnI W B v l -> B <= W.heap.size -> Calls Tryz.prog 181 #[v, .int .i64 a, .int .i64 n] W fun e w' => ∃ v', e = .returned v' ∧ OwnI w' B v' (withF a n false l) ∧ Mv W w' v v') := fun n W h1 h2 => putO_any v l a n _ _ B W h1 h2 hi hp (by omega)
 have hhb := has_bounds hp a
 obtain ⟨ao, cap, rfl⟩ := ho.shape
 have HFU : Hid (∀ W, Calls Tryz.prog 180 #[.slice ao l.length cap] W fun e w' => e = .returned (.bool (decide (l.length = 128))) ∧ w' = W) := fun W => full_any ao l.length cap W
 obtain ⟨L', n', hE⟩ : ∃ L' n', ledgerS ⟨5, l, shut, g⟩ ⟨8, a, b⟩ = (⟨5, L', shut, g⟩, n') := by
   unfold ledgerS
   rw [if_neg (by simp), if_neg (by simp)]
   repeat' split
   all_goals exact ⟨_, _, rfl⟩
 rw [hE]
 have HE0 := hide' hE
 have HE : Hid ((if a < 0 ∨ 255 < a then ((⟨5, l, shut, g⟩ : St), (-1 : Int)) else if b < 0 then (⟨5, l, shut, g⟩, -1) else if findF a 0 l < 0 ∧ l.length = 128 then (⟨5, l, shut, g⟩, -2) else (⟨5, withF a (cutZ (hasF a l + cutZ b)) false l, shut, g⟩, cutZ (hasF a l + cutZ b))) = (⟨5, L', shut, g⟩, n')) := by
   refine hide' ?_
   have h := HE0.out
   unfold ledgerS at h
   rw [if_neg (by simp), if_neg (by simp)] at h
   simpa using h
 clear hE ho hp hi HE0
 show Calls Tryz.prog _ _ w fun e w' => Acted B w (.slice ao l.length cap) L' n' e w'
 have hcb := cutZ_in b
 by_cases hk : 0 <= a ∧ a <= 255
 · have HN := hide' (decide_eq_true hk)
   have HK : Hid (¬ (a < 0 ∨ 255 < a)) := by
     show ¬ (a < 0 ∨ 255 < a)
     omega
   clear hk
   by_cases hb : b < 0
   · have HR : Hid (L' = l ∧ n' = -1) := by
       have h := HE.out
       rw [if_neg HK.out, if_pos hb] at h
       injection h with h1 h2
       injection h1 with _ h3
       exact ⟨h3.symm, h2.symm⟩
     go_enter Tryz.func182, Tryz.ntmps182
     go_wp2_with fail
     refine (HW.out _ _ _).mono ?_
     rintro e W1 ⟨a1, b1, rfl, hc1, hc2, hb1⟩
     have HB1 := hide' (Mv.ofBelow hb1 (.slice ao l.length cap))
     have HO1 := hide' (HO.out.below hb1 (Nat.le_refl _))
     clear hb1
     go_wp2_with fail
     refine (HS.out _ _ _ _ _ _ hc1 hc2).mono ?_
     rintro e W2 ⟨rfl, rfl⟩
     rw [HN.out]
     go_wp2
     go_ret2
     exact ⟨_, ret_vi HR.out.2.symm, by rw [HR.out.1]; exact HO1.out, HB1.out⟩
   · go_enter Tryz.func182, Tryz.ntmps182
     go_wp2_with fail
     refine (HW.out _ _ _).mono ?_
     rintro e W1 ⟨a1, b1, rfl, hc1, hc2, hb1⟩
     have HB1 := hide' (Mv.ofBelow hb1 (.slice ao l.length cap))
     have HO1 := hide' (HO.out.below hb1 (Nat.le_refl _))
     clear hb1
     go_wp2_with fail
     refine (HS.out _ _ _ _ _ _ hc1 hc2).mono ?_
     rintro e W2 ⟨rfl, rfl⟩
     rw [HN.out]
     clear hc1 hc2
     go_wp2_with fail
     refine (HLK.out _ HO1.out).mono ?_
     rintro e W2 ⟨rfl, hb2⟩
     have HB2 := hide' (HB1.out.trans (Mv.ofBelow hb2 _))
     have HO2 := hide' (HO1.out.below hb2 (Nat.le_refl _))
     have hB2 : B <= W2.heap.size := Nat.le_trans hB HB2.out.size
     clear hb2 HB1 HO1
     by_cases hfull : hitP a l = false ∧ l.length = 128
     · have HR : Hid (L' = l ∧ n' = -2) := by
         have h := HE.out
         rw [if_neg HK.out, if_neg (show ¬ b < 0 by omega), if_pos ⟨(hit_find a l).2 hfull.1, hfull.2⟩] at h
         injection h with h1 h2
         injection h1 with _ h3
         exact ⟨h3.symm, h2.symm⟩
       have HFD := hide' (decide_eq_true hfull.2)
       rw [hfull.1]
       clear hfull
       go_wp2_with fail
       refine (HFU.out _).mono ?_
       rintro e W3 ⟨rfl, rfl⟩
       rw [HFD.out]
       go_wp2
       go_ret2
       exact ⟨_, ret_vi HR.out.2.symm, by rw [HR.out.1]; exact HO2.out, HB2.out⟩
     · have HR : Hid (L' = withF a (cutZ (hasF a l + cutZ b)) false l ∧ n' = cutZ (hasF a l + cutZ b)) := by
         have h := HE.out
         rw [if_neg HK.out, if_neg (show ¬ b < 0 by omega), if_neg (fun h => hfull ⟨(hit_find a l).1 h.1, h.2⟩)] at h
         injection h with h1 h2
         injection h1 with _ h3
         exact ⟨h3.symm, h2.symm⟩
       generalize hasF a l = y at *
       cases hh : hitP a l
       · have HFD := hide' (decide_eq_false (fun h => hfull ⟨hh, h⟩))
         clear hfull hh
         go_wp2_with fail
         refine (HFU.out _).mono ?_
         rintro e W3 ⟨rfl, rfl⟩
         rw [HFD.out]
         go_wp2_with (first | (go_at_call 176; refine (HC.out _ _).mono ?_; rintro e w3 ⟨rfl, rfl⟩) | (go_at_call 181; refine (HPT.out _ _ HO2.out hB2).mono ?_; rintro e W3 ⟨v3, rfl, ho3, hb3⟩; have HB3 := hide' (HB2.out.trans hb3); have HO3 := hide' ho3; clear ho3 hb3))
         go_ret2
         exact ⟨_, ret_vi HR.out.2.symm, by rw [HR.out.1]; exact HO3.out, HB3.out⟩
       · clear hfull hh
         go_wp2_with (first | (go_at_call 176; refine (HC.out _ _).mono ?_; rintro e w3 ⟨rfl, rfl⟩) | (go_at_call 181; refine (HPT.out _ _ HO2.out hB2).mono ?_; rintro e W3 ⟨v3, rfl, ho3, hb3⟩; have HB3 := hide' (HB2.out.trans hb3); have HO3 := hide' ho3; clear ho3 hb3))
         go_ret2
         exact ⟨_, ret_vi HR.out.2.symm, by rw [HR.out.1]; exact HO3.out, HB3.out⟩
 · have HN := hide' (decide_eq_false hk)
   have HR : Hid (L' = l ∧ n' = -1) := by
     have h := HE.out
     rw [if_pos (show a < 0 ∨ 255 < a by omega)] at h
     injection h with h1 h2
     injection h1 with _ h3
     exact ⟨h3.symm, h2.symm⟩
   clear hk
   go_enter Tryz.func182, Tryz.ntmps182
   go_wp2_with fail
   refine (HW.out _ _ _).mono ?_
   rintro e W1 ⟨a1, b1, rfl, hc1, hc2, hb1⟩
   have HB1 := hide' (Mv.ofBelow hb1 (.slice ao l.length cap))
   have HO1 := hide' (HO.out.below hb1 (Nat.le_refl _))
   clear hb1
   go_wp2_with fail
   refine (HS.out _ _ _ _ _ _ hc1 hc2).mono ?_
   rintro e W2 ⟨rfl, rfl⟩
   rw [HN.out]
   go_wp2
   go_ret2
   exact ⟨_, ret_vi HR.out.2.symm, by rw [HR.out.1]; exact HO1.out, HB1.out⟩

set_option maxRecDepth 100000 in
set_option maxHeartbeats 1000000 in
theorem move_any (v : Value) (l : List Int) (code a b : Int) (shut : Bool) (g : Int) (B : Nat) (w : World) (ho : OwnI w B v l) (hB : B <= w.heap.size) (hp : Pairs 0 (-1) l) (hlim : l.length <= 128) :
   Calls Tryz.prog 183 #[v, .int .i64 a, .int .i64 b] w fun e w' => Acted B w v (moveS ⟨5, l, shut, g⟩ ⟨code, a, b⟩).1.L (moveS ⟨5, l, shut, g⟩ ⟨code, a, b⟩).2 e w' := by
 have hi := pairs_i64 (by decide) (by decide) hp
 have HO := hide' ho
 have HW := hide' (fun p q W => within_any p q W)
 have HS := hide' (fun n l2 h2 a2 b2 W p1 p2 => is_any n l2 h2 a2 b2 W p1 p2)
 have HLK : Hid (∀ k W, OwnI W B v l -> Calls Tryz.prog 178 #[v, .int .i64 k] W fun e w' => e = .returned (.tuple #[.int .i64 (hasF k l), .bool (hitP k l)]) ∧ Below W.heap.size W w') := fun k W h => by
   rw [has_get]
   exact look_any v l k _ _ W (h.rd hi) hp (by omega)
 obtain ⟨ao, cap, rfl⟩ := ho.shape
 have HFU : Hid (∀ W, Calls Tryz.prog 180 #[.slice ao l.length cap] W fun e w' => e = .returned (.bool (decide (l.length = 128))) ∧ w' = W) := fun W => full_any ao l.length cap W
 obtain ⟨L', n', hE⟩ : ∃ L' n', moveS ⟨5, l, shut, g⟩ ⟨code, a, b⟩ = (⟨5, L', shut, g⟩, n') := by
   unfold moveS
   repeat' split
   all_goals exact ⟨_, _, rfl⟩
 rw [hE]
 have HE := hide' hE
 have HP := hide' hp
 have HI := hide' hi
 clear hE ho hp hi
 show Calls Tryz.prog _ _ w fun e w' => Acted B w (.slice ao l.length cap) L' n' e w'
 by_cases hk : 0 <= a ∧ a <= 65535
 · have HN := hide' (decide_eq_true hk)
   obtain ⟨hk0, hk1⟩ := hk
   by_cases hb : b < 0
   · have HR : Hid (L' = l ∧ n' = 0) := by
       have h := HE.out
       unfold moveS at h
       rw [if_pos (.inr (.inr hb))] at h
       injection h with h1 h2
       injection h1 with _ h3
       exact ⟨h3.symm, h2.symm⟩
     go_enter Tryz.func183, Tryz.ntmps183
     go_wp2_with fail
     refine (HW.out _ _ _).mono ?_
     rintro e W1 ⟨a1, b1, rfl, hc1, hc2, hb1⟩
     have HB1 := hide' (Mv.ofBelow hb1 (.slice ao l.length cap))
     have HO1 := hide' (HO.out.below hb1 (Nat.le_refl _))
     clear hb1
     go_wp2_with fail
     refine (HS.out _ _ _ _ _ _ hc1 hc2).mono ?_
     rintro e W2 ⟨rfl, rfl⟩
     rw [HN.out]
     go_wp2
     go_ret2
     exact ⟨_, ret_vi HR.out.2.symm, by rw [HR.out.1]; exact HO1.out, HB1.out⟩
   · have hb' : 0 <= b := by omega
     have HEQ : Hid ((if findF (a / 256) 0 l < 0 ∨ hasF (a / 256) l < b then ((⟨5, l, shut, g⟩ : St), (0 : Int)) else if a / 256 = a % 256 then (⟨5, l, shut, g⟩, 1) else if (findF (a % 256) 0 l < 0 ∧ l.length = 128) ∨ 1099511627776 < hasF (a % 256) l + b then (⟨5, l, shut, g⟩, 0) else (⟨5, withF (a % 256) (hasF (a % 256) l + b) false (withF (a / 256) (hasF (a / 256) l - b) false l), shut, g⟩, 1)) = (⟨5, L', shut, g⟩, n')) := by
       have h := HE.out
       unfold moveS at h
       rw [if_neg (by simp; omega)] at h
       exact h
     clear HE hb
     have HD1 : Hid (a.tdiv 256 = a / 256) := Int.tdiv_eq_ediv_of_nonneg hk0
     have HD2 : Hid (a.tmod 256 = a % 256) := Int.tmod_eq_emod_of_nonneg hk0
     have hF0 : 0 <= a / 256 := by omega
     have hF1 : a / 256 <= 255 := by omega
     have hT0 : 0 <= a % 256 := by omega
     have hT1 : a % 256 <= 255 := by omega
     have hbF := has_bounds HP.out (a / 256)
     have hbT := has_bounds HP.out (a % 256)
     obtain ⟨F, hF⟩ : ∃ F, F = a / 256 := ⟨_, rfl⟩
     obtain ⟨T, hT⟩ : ∃ T, T = a % 256 := ⟨_, rfl⟩
     rw [<- hF] at HD1 HEQ hF0 hF1 hbF
     rw [<- hT] at HD2 HEQ hT0 hT1 hbT
     clear hF hT
     have hd1 := HD1.out
     have hd2 := HD2.out
     go_enter Tryz.func183, Tryz.ntmps183
     go_wp2_with fail
     refine (HW.out _ _ _).mono ?_
     rintro e W1 ⟨a1, b1, rfl, hc1, hc2, hb1⟩
     have HB1 := hide' (Mv.ofBelow hb1 (.slice ao l.length cap))
     have HO1 := hide' (HO.out.below hb1 (Nat.le_refl _))
     clear hb1
     go_wp2_with fail
     refine (HS.out _ _ _ _ _ _ hc1 hc2).mono ?_
     rintro e W2 ⟨rfl, rfl⟩
     rw [HN.out]
     clear hc1 hc2
     go_wp2_with fail
     refine (HLK.out _ _ HO1.out).mono ?_
     rintro e W2 ⟨rfl, hb2⟩
     have HB2 := hide' (HB1.out.trans (Mv.ofBelow hb2 _))
     have HO2 := hide' (HO1.out.below hb2 (Nat.le_refl _))
     have hB2 : B <= W2.heap.size := Nat.le_trans hB HB2.out.size
     clear hb2 HB1 HO1
     cases hh : hitP F l
     · have HR : Hid (L' = l ∧ n' = 0) := by
         have h := HEQ.out
         rw [if_pos (.inl ((hit_find F l).2 hh))] at h
         injection h with h1 h2
         injection h1 with _ h3
         exact ⟨h3.symm, h2.symm⟩
       clear hh
       go_wp2
       go_ret2
       exact ⟨_, ret_vi HR.out.2.symm, by rw [HR.out.1]; exact HO2.out, HB2.out⟩
     · have HHF : Hid (¬ findF F 0 l < 0) := fun h => by rw [(hit_find F l).1 h] at hh; cases hh
       clear hh
       by_cases hlt : hasF F l < b
       · have HR : Hid (L' = l ∧ n' = 0) := by
           have h := HEQ.out
           rw [if_pos (.inr hlt)] at h
           injection h with h1 h2
           injection h1 with _ h3
           exact ⟨h3.symm, h2.symm⟩
         clear HHF
         go_wp2
         go_ret2
         exact ⟨_, ret_vi HR.out.2.symm, by rw [HR.out.1]; exact HO2.out, HB2.out⟩
       · by_cases hFT : F = T
         · have hq : (F == T) = true := beq_iff_eq.2 hFT
           have HR : Hid (L' = l ∧ n' = 1) := by
             have h := HEQ.out
             rw [if_neg (fun h => h.elim HHF.out hlt), if_pos hFT] at h
             injection h with h1 h2
             injection h1 with _ h3
             exact ⟨h3.symm, h2.symm⟩
           clear HHF hFT
           go_wp2
           go_ret2
           exact ⟨_, ret_vi HR.out.2.symm, by rw [HR.out.1]; exact HO2.out, HB2.out⟩
         · have hq : (F == T) = false := beq_eq_false_iff_ne.2 hFT
           have HNQ := hide' hFT
           have HLT := hide' hlt
           clear hFT
           go_wp2_with fail
           refine (HLK.out _ _ HO2.out).mono ?_
           rintro e W3 ⟨rfl, hb3⟩
           have HB3 := hide' (HB2.out.trans (Mv.ofBelow hb3 _))
           have HO3 := hide' (HO2.out.below hb3 (Nat.le_refl _))
           have hB3 : B <= W3.heap.size := Nat.le_trans hB HB3.out.size
           clear hb3 HB2 HO2 hB2
           by_cases hful : hitP T l = false ∧ l.length = 128
           · have HFD := hide' (decide_eq_true hful.2)
             have HR : Hid (L' = l ∧ n' = 0) := by
               have h := HEQ.out
               rw [if_neg (fun h => by have := HHF.out; have := HLT.out; omega), if_neg HNQ.out, if_pos (.inl ⟨(hit_find T l).2 hful.1, hful.2⟩)] at h
               injection h with h1 h2
               injection h1 with _ h3
               exact ⟨h3.symm, h2.symm⟩
             rw [hful.1]
             clear hful
             go_wp2_with fail
             refine (HFU.out _).mono ?_
             rintro e W4 ⟨rfl, rfl⟩
             rw [HFD.out]
             go_wp2
             go_ret2
             exact ⟨_, ret_vi HR.out.2.symm, by rw [HR.out.1]; exact HO3.out, HB3.out⟩
           · by_cases hbig : 1099511627776 < hasF T l + b
             · have HR : Hid (L' = l ∧ n' = 0) := by
                 have h := HEQ.out
                 rw [if_neg (fun h => by have := HHF.out; have := HLT.out; omega), if_neg HNQ.out, if_pos (.inr hbig)] at h
                 injection h with h1 h2
                 injection h1 with _ h3
                 exact ⟨h3.symm, h2.symm⟩
               cases hh : hitP T l
               · have HFD := hide' (decide_eq_false (fun h => hful ⟨hh, h⟩))
                 clear hful hh
                 go_wp2_with fail
                 refine (HFU.out _).mono ?_
                 rintro e W4 ⟨rfl, rfl⟩
                 rw [HFD.out]
                 go_wp2
                 go_ret2
                 exact ⟨_, ret_vi HR.out.2.symm, by rw [HR.out.1]; exact HO3.out, HB3.out⟩
               · clear hful hh
                 go_wp2
                 go_ret2
                 exact ⟨_, ret_vi HR.out.2.symm, by rw [HR.out.1]; exact HO3.out, HB3.out⟩
             · have HBIG := hide' hbig
               have HR : Hid (L' = withF T (hasF T l + b) false (withF F (hasF F l - b) false l) ∧ n' = 1) := by
                 have h := HEQ.out
                 rw [if_neg (fun h => by have := HHF.out; have := HLT.out; omega), if_neg HNQ.out, if_neg (fun h => h.elim (fun x => hful ⟨(hit_find T l).1 x.1, x.2⟩) (fun x => by have := HBIG.out; omega))] at h
                 injection h with h1 h2
                 injection h1 with _ h3
                 exact ⟨h3.symm, h2.symm⟩
               have HP1 : Hid (Pairs 0 (-1) (withF F (hasF F l - b) false l)) := withF_pairs F _ 0 (by omega) (by omega) hF1 l (-1) HP.out (by omega)
               have HL1 : Hid ((withF F (hasF F l - b) false l).length <= 1000000) := by
                 have := withF_length F (hasF F l - b) l false
                 show (withF F (hasF F l - b) false l).length <= 1000000
                 omega
               have HPA : Hid (∀ W, OwnI W B (.slice ao l.length cap) l -> B <= W.heap.size -> Calls Tryz.prog 181 #[.slice ao l.length cap, .int .i64 F, .int .i64 (hasF F l - b)] W fun e w' => ∃ v', e = .returned v' ∧ OwnI w' B v' (withF F (hasF F l - b) false l) ∧ Mv W w' (.slice ao l.length cap) v') := fun W h1 h2 => putO_any _ l F _ _ _ B W h1 h2 HI.out HP.out (by omega)
               have HPB : Hid (∀ v1 W, OwnI W B v1 (withF F (hasF F l - b) false l) -> B <= W.heap.size -> Calls Tryz.prog 181 #[v1, .int .i64 T, .int .i64 (hasF T l + b)] W fun e w' => ∃ v', e = .returned v' ∧ OwnI w' B v' (withF T (hasF T l + b) false (withF F (hasF F l - b) false l)) ∧ Mv W w' v1 v') := fun v1 W h1 h2 => putO_any v1 _ T _ _ _ B W h1 h2 (pairs_i64 (by decide) (by decide) HP1.out) HP1.out HL1.out
               generalize withF T (hasF T l + b) false (withF F (hasF F l - b) false l) = L2 at *
               generalize withF F (hasF F l - b) false l = L1 at *
               generalize hasF F l = y at *
               generalize hasF T l = z at *
               clear HP1 HL1 HEQ HLK
               cases hh : hitP T l
               · have HFD := hide' (decide_eq_false (fun h => hful ⟨hh, h⟩))
                 clear hful hh
                 go_wp2_with fail
                 refine (HFU.out _).mono ?_
                 rintro e W4 ⟨rfl, rfl⟩
                 rw [HFD.out]
                 go_wp2_with fail
                 refine (HPA.out _ HO3.out hB3).mono ?_
                 rintro e W5 ⟨v5, rfl, ho5, hb5⟩
                 have HB5 := hide' (HB3.out.trans hb5)
                 have HO5 := hide' ho5
                 have hB5 : B <= W5.heap.size := Nat.le_trans hB HB5.out.size
                 clear ho5 hb5
                 go_wp2_with fail
                 refine (HPB.out _ _ HO5.out hB5).mono ?_
                 rintro e W6 ⟨v6, rfl, ho6, hb6⟩
                 have HB6 := hide' (HB5.out.trans hb6)
                 have HO6 := hide' ho6
                 clear ho6 hb6
                 go_wp2
                 go_ret2
                 exact ⟨_, ret_vi HR.out.2.symm, by rw [HR.out.1]; exact HO6.out, HB6.out⟩
               · clear hful hh
                 go_wp2_with fail
                 refine (HPA.out _ HO3.out hB3).mono ?_
                 rintro e W5 ⟨v5, rfl, ho5, hb5⟩
                 have HB5 := hide' (HB3.out.trans hb5)
                 have HO5 := hide' ho5
                 have hB5 : B <= W5.heap.size := Nat.le_trans hB HB5.out.size
                 clear ho5 hb5
                 go_wp2_with fail
                 refine (HPB.out _ _ HO5.out hB5).mono ?_
                 rintro e W6 ⟨v6, rfl, ho6, hb6⟩
                 have HB6 := hide' (HB5.out.trans hb6)
                 have HO6 := hide' ho6
                 clear ho6 hb6
                 go_wp2
                 go_ret2
                 exact ⟨_, ret_vi HR.out.2.symm, by rw [HR.out.1]; exact HO6.out, HB6.out⟩
 · have HN := hide' (decide_eq_false hk)
   have HR : Hid (L' = l ∧ n' = 0) := by
     have h := HE.out
     unfold moveS at h
     rw [if_pos (show a < 0 ∨ 65535 < a ∨ b < 0 by omega)] at h
     injection h with h1 h2
     injection h1 with _ h3
     exact ⟨h3.symm, h2.symm⟩
   clear hk
   go_enter Tryz.func183, Tryz.ntmps183
   go_wp2_with fail
   refine (HW.out _ _ _).mono ?_
   rintro e W1 ⟨a1, b1, rfl, hc1, hc2, hb1⟩
   have HB1 := hide' (Mv.ofBelow hb1 (.slice ao l.length cap))
   have HO1 := hide' (HO.out.below hb1 (Nat.le_refl _))
   clear hb1
   go_wp2_with fail
   refine (HS.out _ _ _ _ _ _ hc1 hc2).mono ?_
   rintro e W2 ⟨rfl, rfl⟩
   rw [HN.out]
   go_wp2
   go_ret2
   exact ⟨_, ret_vi HR.out.2.symm, by rw [HR.out.1]; exact HO1.out, HB1.out⟩

theorem hit_range {least key : Int} {l : List Int} (hp : Pairs least (-1) l) (h : hitP key l = true) : 0 <= key ∧ key <= 255 := by
 unfold hitP at h
 cases hg : getP key l with
 | none => rw [hg] at h; simp at h
 | some x =>
   have := getP_in hp hg
   omega

set_option maxHeartbeats 1000000 in
theorem ledgerO_any (v : Value) (l : List Int) (o : Opn) (shut : Bool) (g : Int) (B : Nat) (w : World) (ho : OwnI w B v l) (hB : B <= w.heap.size) (hp : Pairs 0 (-1) l) (hlim : l.length <= 128) :
   Calls Tryz.prog 132 #[v, opV o] w fun e w' => Acted B w v (ledgerS ⟨5, l, shut, g⟩ o).1.L (ledgerS ⟨5, l, shut, g⟩ o).2 e w' := by
 obtain ⟨code, a, b⟩ := o
 have hi := pairs_i64 (by decide) (by decide) hp
 have HO := hide' ho
 have HBA : Hid (∀ X, Mv w (w.alloc X) v v) := fun X => Mv.alloc w v X
 show Calls Tryz.prog _ #[_, .agg #[.int .i64 code, .int .i64 a, .int .i64 b]] w _
 by_cases c7 : code = 7
 · subst c7
   have HLK : Hid (∀ W, OwnI W B v l -> Calls Tryz.prog 178 #[v, .int .i64 a] W fun e w' => e = .returned (.tuple #[.int .i64 ((getP a l).getD 0), .bool (hitP a l)]) ∧ Below W.heap.size W w') := fun W h => look_any v l a _ _ W (h.rd hi) hp (by omega)
   have HE : Hid (ledgerS ⟨5, l, shut, g⟩ ⟨7, a, b⟩ = (⟨5, l, shut, g⟩, hadF a l)) := by
     refine hide' ?_
     unfold ledgerS
     rw [if_neg (by simp), if_neg (by simp)]
     by_cases hk : a < 0 ∨ 255 < a
     · rw [if_pos hk]
       have hh : hitP a l = false := by
         cases h : hitP a l
         · rfl
         · have := hit_range hp h
           omega
       rw [had_miss hh]
     · rw [if_neg hk, if_pos rfl]
   rw [HE.out]
   clear HE ho hp hi
   cases hh : hitP a l
   · have HV := hide' (had_miss hh)
     rw [HV.out]
     rw [hh] at HLK
     clear HV hh
     generalize (getP a l).getD 0 = y at *
     go_enter Tryz.func132, Tryz.ntmps132
     go_wp2_with fail
     refine (HLK.out _ (HO.out.alloc _)).mono ?_
     rintro e W1 ⟨rfl, hb1⟩
     have HB1 := hide' ((HBA.out _).trans (Mv.ofBelow hb1 _))
     have HO1 := hide' ((HO.out.alloc _).below hb1 (Nat.le_refl _))
     clear hb1
     go_wp2
     go_ret2
     exact ⟨_, rfl, HO1.out, HB1.out⟩
   · have HV := hide' (had_hit hh)
     rw [HV.out]
     rw [hh] at HLK
     clear HV hh
     generalize (getP a l).getD 0 = y at *
     go_enter Tryz.func132, Tryz.ntmps132
     go_wp2_with fail
     refine (HLK.out _ (HO.out.alloc _)).mono ?_
     rintro e W1 ⟨rfl, hb1⟩
     have HB1 := hide' ((HBA.out _).trans (Mv.ofBelow hb1 _))
     have HO1 := hide' ((HO.out.alloc _).below hb1 (Nat.le_refl _))
     clear hb1
     go_wp2
     go_ret2
     exact ⟨_, rfl, HO1.out, HB1.out⟩
 · have e7 : (code == 7) = false := beq_eq_false_iff_ne.2 c7
   by_cases c8 : code = 8
   · subst c8
     have HP : Hid (∀ X, Calls Tryz.prog 182 #[v, .int .i64 a, .int .i64 b] (w.alloc X) fun e w' => Acted B (w.alloc X) v (ledgerS ⟨5, l, shut, g⟩ ⟨8, a, b⟩).1.L (ledgerS ⟨5, l, shut, g⟩ ⟨8, a, b⟩).2 e w') := fun X => deposit_any v l a b shut g B (w.alloc X) (HO.out.alloc X) (by simp; omega) hp hlim
     generalize (ledgerS ⟨5, l, shut, g⟩ ⟨8, a, b⟩).1.L = L' at *
     generalize (ledgerS ⟨5, l, shut, g⟩ ⟨8, a, b⟩).2 = n at *
     clear ho hi hp c7 e7
     go_enter Tryz.func132, Tryz.ntmps132
     go_wp2_with fail
     refine (HP.out _).mono ?_
     rintro e W1 ⟨v1, rfl, ho1, hb1⟩
     have HO1 := hide' ho1
     have HB1 := hide' ((HBA.out _).trans hb1)
     clear ho1 hb1
     go_wp2
     go_ret2
     exact ⟨_, rfl, HO1.out, HB1.out⟩
   · have e8 : (code == 8) = false := beq_eq_false_iff_ne.2 c8
     by_cases c9 : code = 9
     · have HE : Hid (ledgerS ⟨5, l, shut, g⟩ ⟨code, a, b⟩ = moveS ⟨5, l, shut, g⟩ ⟨code, a, b⟩) := if_pos c9
       rw [HE.out]
       have e9 : (code == 9) = true := beq_iff_eq.2 c9
       have HP : Hid (∀ X, Calls Tryz.prog 183 #[v, .int .i64 a, .int .i64 b] (w.alloc X) fun e w' => Acted B (w.alloc X) v (moveS ⟨5, l, shut, g⟩ ⟨code, a, b⟩).1.L (moveS ⟨5, l, shut, g⟩ ⟨code, a, b⟩).2 e w') := fun X => move_any v l code a b shut g B (w.alloc X) (HO.out.alloc X) (by simp; omega) hp hlim
       generalize (moveS ⟨5, l, shut, g⟩ ⟨code, a, b⟩).1.L = L' at *
       generalize (moveS ⟨5, l, shut, g⟩ ⟨code, a, b⟩).2 = n at *
       clear ho hi hp c7 c8 c9 HE
       go_enter Tryz.func132, Tryz.ntmps132
       go_wp2_with fail
       refine (HP.out _).mono ?_
       rintro e W1 ⟨v1, rfl, ho1, hb1⟩
       have HO1 := hide' ho1
       have HB1 := hide' ((HBA.out _).trans hb1)
       clear ho1 hb1
       go_wp2
       go_ret2
       exact ⟨_, rfl, HO1.out, HB1.out⟩
     · have e9 : (code == 9) = false := beq_eq_false_iff_ne.2 c9
       have HE : Hid (ledgerS ⟨5, l, shut, g⟩ ⟨code, a, b⟩ = (⟨5, l, shut, g⟩, 0)) := by
         refine hide' ?_
         unfold ledgerS
         rw [if_neg c9, if_pos ⟨c7, c8⟩]
       rw [HE.out]
       clear ho hi hp c7 c8 c9 HE
       go_enter Tryz.func132, Tryz.ntmps132
       go_wp2
       go_ret2
       exact ⟨_, rfl, HO.out.alloc _, HBA.out _⟩

set_option maxHeartbeats 2000000 in
theorem seal_any (kind : Int) (ao : Option Addr) (n cap : Nat) (shut : Bool) (g a : Int) (w : World) :
   Calls Tryz.prog 127 #[.agg #[.int .i64 kind, .slice ao n cap, .bool shut, .int .i64 g], .int .i64 a] w fun e w' => e = .returned (.agg #[.int .i64 kind, .slice ao n cap, .bool true, .int .i64 (if 0 <= a ∧ a <= 2 then a else g)]) ∧ Below w.heap.size w w' := by
 have HW := hide' (fun p q W => within_any p q W)
 have HS := hide' (fun n l2 h2 a2 b2 W p1 p2 => is_any n l2 h2 a2 b2 W p1 p2)
 have HBA : Hid (∀ x y, Below w.heap.size w ((w.alloc x).alloc y)) := fun x y => ((Below.refl _ _).alloc (Nat.le_refl _) x).alloc (by simp) y
 by_cases hk : 0 <= a ∧ a <= 2
 · rw [if_pos hk]
   have HN := hide' (decide_eq_true hk)
   clear hk
   go_enter Tryz.func127, Tryz.ntmps127
   go_wp2_with fail
   refine (HW.out _ _ _).mono ?_
   rintro e W1 ⟨a1, b1, rfl, hc1, hc2, hb1⟩
   have hbx : Box2 W1 w.heap.size _ _ := (Box2.made w _ _).below hb1 (by simp)
   have q0 := (hbx.s 0).1
   have q1 := (hbx.s 1).1
   have q2 := (hbx.s 2).1
   have q3 := (hbx.s 3).1
   have f2 := (hbx.s 2).2
   have f3 := (hbx.s 3).2
   have r0 := (hbx.r 0).1
   have r1 := (hbx.r 1).1
   have r2 := (hbx.r 2).1
   have r3 := (hbx.r 3).1
   have s0 := (hbx.r 0).2
   have s1 := (hbx.r 1).2
   have s2 := (hbx.r 2).2
   have s3 := (hbx.r 3).2
   have HB1 := hide' ((HBA.out _ _).trans (hb1.mono (HBA.out _ _).size))
   have HC1 : Hid (∀ x, (W1.setCell ⟨w.heap.size, 2, none⟩ x).cell? ⟨a1, 0, none⟩ = some (.int .i64 0)) := fun x => (World.cell?_setCell_other _ _ _ _ (by simp)).trans hc1
   have HC2 : Hid (∀ x, (W1.setCell ⟨w.heap.size, 2, none⟩ x).cell? ⟨b1, 0, none⟩ = some (.int .i64 2)) := fun x => (World.cell?_setCell_other _ _ _ _ (by simp)).trans hc2
   clear hb1 hbx hc1 hc2
   go_wp2_with fail
   refine (HS.out _ _ _ _ _ _ (HC1.out _) (HC2.out _)).mono ?_
   rintro e W2 ⟨rfl, rfl⟩
   rw [HN.out]
   go_wp2
   refine bodyPost_ret (v := .agg #[.int .i64 kind, .slice ao n cap, .bool true, .int .i64 a]) (by simp [results, Tryz.results127, go_sem, r0, r1, r2, r3]) rfl ?_
   exact ⟨rfl, ((((((HB1.out.setCell (Nat.le_refl _) _).setCell (Nat.le_refl _) _).setCell (Nat.le_succ _) _).setCell (Nat.le_succ _) _).setCell (Nat.le_succ _) _).setCell (Nat.le_succ _) _)⟩
 · rw [if_neg hk]
   have HN := hide' (decide_eq_false hk)
   clear hk
   go_enter Tryz.func127, Tryz.ntmps127
   go_wp2_with fail
   refine (HW.out _ _ _).mono ?_
   rintro e W1 ⟨a1, b1, rfl, hc1, hc2, hb1⟩
   have hbx : Box2 W1 w.heap.size _ _ := (Box2.made w _ _).below hb1 (by simp)
   have q0 := (hbx.s 0).1
   have q1 := (hbx.s 1).1
   have q2 := (hbx.s 2).1
   have q3 := (hbx.s 3).1
   have f2 := (hbx.s 2).2
   have f3 := (hbx.s 3).2
   have r0 := (hbx.r 0).1
   have r1 := (hbx.r 1).1
   have r2 := (hbx.r 2).1
   have r3 := (hbx.r 3).1
   have s0 := (hbx.r 0).2
   have s1 := (hbx.r 1).2
   have s2 := (hbx.r 2).2
   have s3 := (hbx.r 3).2
   have HB1 := hide' ((HBA.out _ _).trans (hb1.mono (HBA.out _ _).size))
   have HC1 : Hid (∀ x, (W1.setCell ⟨w.heap.size, 2, none⟩ x).cell? ⟨a1, 0, none⟩ = some (.int .i64 0)) := fun x => (World.cell?_setCell_other _ _ _ _ (by simp)).trans hc1
   have HC2 : Hid (∀ x, (W1.setCell ⟨w.heap.size, 2, none⟩ x).cell? ⟨b1, 0, none⟩ = some (.int .i64 2)) := fun x => (World.cell?_setCell_other _ _ _ _ (by simp)).trans hc2
   clear hb1 hbx hc1 hc2
   go_wp2_with fail
   refine (HS.out _ _ _ _ _ _ (HC1.out _) (HC2.out _)).mono ?_
   rintro e W2 ⟨rfl, rfl⟩
   rw [HN.out]
   go_wp2
   refine bodyPost_ret (v := .agg #[.int .i64 kind, .slice ao n cap, .bool true, .int .i64 g]) (by simp [results, Tryz.results127, go_sem, r0, r1, r2, r3]) rfl ?_
   exact ⟨rfl, (((((HB1.out.setCell (Nat.le_refl _) _).setCell (Nat.le_succ _) _).setCell (Nat.le_succ _) _).setCell (Nat.le_succ _) _).setCell (Nat.le_succ _) _)⟩

theorem Boxes.mv {W W1 : World} {N : Nat} {s o r : Array Value} {v v' : Value} (h : Boxes W N s o r) (hv : ∀ b, v.ownBlock = some b -> b < N) (hm : Mv W W1 v v') : Boxes W1 N s o r := by
 obtain ⟨h1, h2, h3⟩ := h
 have lt : ∀ k x, W.heap[k]? = some x -> N <= k -> W1.heap[k]? = some x := fun k x hk hN => by
   rw [hm.grown.block k (Array.getElem?_eq_some_iff.1 hk).1 (fun e => by have := hv k e.symm; omega)]
   exact hk
 exact ⟨lt _ _ h1 (by omega), lt _ _ h2 (by omega), lt _ _ h3 (by omega)⟩

theorem act_fin {w W0 W1 F : World} {B : Nat} {v v' : Value} {l L' : List Int} (h0 : OwnI w B v l) (hb : Below w.heap.size w W0) (hs : W0.heap.size = w.heap.size + 3) (hm : Mv W0 W1 v v') (ho : OwnI W1 B v' L') (hF : But w.heap.size (w.heap.size + 1 + 1) W1 F) : OwnI F B v' L' ∧ Mv w F v v' := by
 have hv : ∀ b, v.ownBlock = some b -> b < w.heap.size := fun b h => (World.ownsRow.lt h0 b h).2
 have hlies : ∀ b, v'.ownBlock = some b -> v.ownBlock = some b ∨ w.heap.size + 3 <= b := fun b h => by
   rcases hm.lies b h with h' | h'
   · exact .inl h'
   · exact .inr (by omega)
 have hsz := hm.size
 refine ⟨ho.but hF (fun b h => ?_), ⟨⟨hF.os.trans (hm.grown.os.trans hb.os), hF.tape.trans (hm.grown.tape.trans hb.tape), hF.output.trans (hm.grown.output.trans hb.output), by have := hF.size; omega, fun k hk hne => ?_⟩, fun b h => ?_⟩⟩
 · rcases hlies b h with h' | h'
   · have := hv b h'
     omega
   · omega
 · rw [hF.block k (by omega) (by omega) (by omega), hm.grown.block k (by omega) hne]
   exact hb.block k hk
 · rcases hlies b h with h' | h'
   · exact .inl h'
   · exact .inr (by omega)

theorem three_boxes (w : World) (x y z : Obj) : Below w.heap.size w (((w.alloc x).alloc y).alloc z) ∧ (((w.alloc x).alloc y).alloc z).heap.size = w.heap.size + 3 :=
 ⟨(((Below.refl _ _).alloc (Nat.le_refl _) x).alloc (by simp) y).alloc (by simp; omega) z, by simp⟩

theorem OwnI.alloc3 {w : World} {B : Nat} {v : Value} {l : List Int} (h : OwnI w B v l) (x y z : Obj) : OwnI (((w.alloc x).alloc y).alloc z) B v l := ((h.alloc x).alloc y).alloc z

def Did (B : Nat) (w : World) (v : Value) (r : St × Int) (e : Ending) (w' : World) : Prop :=
 ∃ v', e = .returned (.tuple #[.agg #[.int .i64 r.1.kind, v', .bool r.1.shut, .int .i64 r.1.eng], .int .i64 r.2]) ∧ OwnI w' B v' r.1.L ∧ Mv w w' v v'

set_option maxHeartbeats 2000000 in
theorem actShut_any (kind g : Int) (l : List Int) (v : Value) (o : Opn) (B : Nat) (w : World) (ho : OwnI w B v l) :
   Calls Tryz.prog 90 #[.agg #[.int .i64 kind, v, .bool true, .int .i64 g], opV o] w fun e w' => Did B w v (⟨kind, l, true, g⟩, -1125899906842624) e w' := by
 obtain ⟨code, a, b⟩ := o
 have HO := hide' ho
 obtain ⟨ao, cap, rfl⟩ := ho.shape
 have HM : Hid (∀ x y z, Mv w (((w.alloc x).alloc y).alloc z) (.slice ao l.length cap) (.slice ao l.length cap)) := fun x y z => Mv.ofBelow (three_boxes w x y z).1 _
 clear ho
 show Calls Tryz.prog _ #[_, .agg #[.int .i64 code, .int .i64 a, .int .i64 b]] w _
 go_enter Tryz.func90, Tryz.ntmps90
 go_wp2
 refine bodyPost_ret (v := .tuple #[.agg #[.int .i64 kind, .slice ao l.length cap, .bool true, .int .i64 g], .int .i64 (-1125899906842624)]) (by simp [results, Tryz.results90, go_sem]) rfl ?_
 exact ⟨_, rfl, HO.out.alloc3 _ _ _, HM.out _ _ _⟩

set_option maxHeartbeats 2000000 in
theorem actSeal_any (kind g a b : Int) (l : List Int) (v : Value) (B : Nat) (w : World) (ho : OwnI w B v l) :
   Calls Tryz.prog 90 #[.agg #[.int .i64 kind, v, .bool false, .int .i64 g], .agg #[.int .i64 10, .int .i64 a, .int .i64 b]] w fun e w' => Did B w v (⟨kind, l, true, if 0 <= a ∧ a <= 2 then a else g⟩, 0) e w' := by
 have HO := hide' ho
 obtain ⟨ao, cap, rfl⟩ := ho.shape
 have HSL := hide' (fun W => seal_any kind ao l.length cap false g a W)
 generalize (if 0 <= a ∧ a <= 2 then a else g) = t at *
 clear ho
 go_enter Tryz.func90, Tryz.ntmps90
 go_wp2_with fail
 refine (HSL.out _).mono ?_
 rintro e W1 ⟨rfl, hb1⟩
 have hbx := (Boxes.made w _ _ _).below hb1 (by simp)
 obtain ⟨r0, s0⟩ := hbx.r 0
 obtain ⟨r1, s1⟩ := hbx.r 1
 obtain ⟨r2, s2⟩ := hbx.r 2
 obtain ⟨r3, s3⟩ := hbx.r 3
 have HFIN := hide' (fun F hF => act_fin (F := F) HO.out (three_boxes w _ _ _).1 (three_boxes w _ _ _).2 (Mv.ofBelow hb1 _) ((HO.out.alloc3 _ _ _).below hb1 (Nat.le_refl _)) hF)
 clear hb1 hbx
 go_wp2
 refine bodyPost_ret (v := .tuple #[.agg #[.int .i64 kind, .slice ao l.length cap, .bool true, .int .i64 t], .int .i64 0]) (by simp [results, Tryz.results90, go_sem, r0, r1, r2, r3]) rfl ?_
 exact ⟨_, rfl, HFIN.out _ ((But.refl _ _ _).four _ (.inr rfl) _ _ _ _)⟩

set_option maxHeartbeats 2000000 in
theorem actOne_any (kind g : Int) (hk : kind = 0 ∨ kind = 1) (l : List Int) (v : Value) (o : Opn) (hc : o.code ≠ 10) (B : Nat) (w : World) (ho : OwnI w B v l) (hl : l.length = 1) (hb0 : -1099511627776 <= l.getD 0 0) (hb1 : l.getD 0 0 <= 1099511627776) :
   Calls Tryz.prog 90 #[.agg #[.int .i64 kind, v, .bool false, .int .i64 g], opV o] w fun e w' => Did B w v (oneS ⟨kind, l, false, g⟩ o) e w' := by
 have HO := hide' ho
 have hknd := one_kind ⟨kind, l, false, g⟩ o
 obtain ⟨L', n', hE⟩ : ∃ L' n', oneS ⟨kind, l, false, g⟩ o = (⟨kind, L', false, g⟩, n') := by
   obtain ⟨h1, h2, h3⟩ := hknd
   refine ⟨(oneS ⟨kind, l, false, g⟩ o).1.L, (oneS ⟨kind, l, false, g⟩ o).2, ?_⟩
   rcases hr : oneS ⟨kind, l, false, g⟩ o with ⟨⟨k1, l1, s1, g1⟩, n1⟩
   rw [hr] at h1 h2 h3
   simp only at h1 h2 h3
   rw [h1, h2, h3]
 have HC : Hid (∀ W, OwnI W B v l -> Calls Tryz.prog (if kind = 0 then 128 else 129) #[v, opV o] W fun e w' => e = .returned (.int .i64 n') ∧ OwnI w' B v L' ∧ Mv W w' v v) := fun W h => by
   rcases hk with rfl | rfl
   · have := counter_any v l o false g B W h hl hb0 hb1
     rw [hE] at this
     exact this
   · have := register_any v l o false g B W h hl
     rw [hE] at this
     exact this
 rw [hE]
 obtain ⟨code, a, b⟩ := o
 have e10 : (code == 10) = false := beq_eq_false_iff_ne.2 hc
 obtain ⟨ao, cap, rfl⟩ := ho.shape
 have hv : ∀ b, (Value.slice ao l.length cap).ownBlock = some b -> b < w.heap.size := fun b h => (World.ownsRow.lt ho b h).2
 have HV := hide' hv
 clear ho hE hknd hc hl hb0 hb1 hv
 show Calls Tryz.prog _ #[_, .agg #[.int .i64 code, .int .i64 a, .int .i64 b]] w _
 rcases hk with rfl | rfl
 · rw [if_pos rfl] at HC
   go_enter Tryz.func90, Tryz.ntmps90
   go_wp2_with fail
   refine (HC.out _ (HO.out.alloc3 _ _ _)).mono ?_
   rintro e W1 ⟨rfl, ho1, hm1⟩
   have hbx := (Boxes.made w _ _ _).mv HV.out hm1
   obtain ⟨q0, -⟩ := hbx.s 0
   obtain ⟨q1, -⟩ := hbx.s 1
   obtain ⟨q2, -⟩ := hbx.s 2
   obtain ⟨q3, -⟩ := hbx.s 3
   obtain ⟨r0, s0⟩ := hbx.r 0
   obtain ⟨r1, s1⟩ := hbx.r 1
   obtain ⟨r2, s2⟩ := hbx.r 2
   obtain ⟨r3, s3⟩ := hbx.r 3
   have HFIN := hide' (fun F hF => act_fin (F := F) HO.out (three_boxes w _ _ _).1 (three_boxes w _ _ _).2 hm1 ho1 hF)
   clear hbx ho1 hm1
   go_wp2
   refine bodyPost_ret (v := .tuple #[.agg #[.int .i64 0, .slice ao l.length cap, .bool false, .int .i64 g], .int .i64 n']) (by simp [results, Tryz.results90, go_sem, r0, r1, r2, r3]) rfl ?_
   exact ⟨_, rfl, HFIN.out _ ((But.refl _ _ _).four _ (.inr rfl) _ _ _ _)⟩
 · rw [if_neg (by decide)] at HC
   go_enter Tryz.func90, Tryz.ntmps90
   go_wp2_with fail
   refine (HC.out _ (HO.out.alloc3 _ _ _)).mono ?_
   rintro e W1 ⟨rfl, ho1, hm1⟩
   have hbx := (Boxes.made w _ _ _).mv HV.out hm1
   obtain ⟨q0, -⟩ := hbx.s 0
   obtain ⟨q1, -⟩ := hbx.s 1
   obtain ⟨q2, -⟩ := hbx.s 2
   obtain ⟨q3, -⟩ := hbx.s 3
   obtain ⟨r0, s0⟩ := hbx.r 0
   obtain ⟨r1, s1⟩ := hbx.r 1
   obtain ⟨r2, s2⟩ := hbx.r 2
   obtain ⟨r3, s3⟩ := hbx.r 3
   have HFIN := hide' (fun F hF => act_fin (F := F) HO.out (three_boxes w _ _ _).1 (three_boxes w _ _ _).2 hm1 ho1 hF)
   clear hbx ho1 hm1
   go_wp2
   refine bodyPost_ret (v := .tuple #[.agg #[.int .i64 1, .slice ao l.length cap, .bool false, .int .i64 g], .int .i64 n']) (by simp [results, Tryz.results90, go_sem, r0, r1, r2, r3]) rfl ?_
   exact ⟨_, rfl, HFIN.out _ ((But.refl _ _ _).four _ (.inr rfl) _ _ _ _)⟩

theorem actMid {w W1 : World} {B : Nat} {kind g : Int} {l L' : List Int} {ao ao1 : Option Addr} {cap cap1 : Nat} {xs xo xr : Array Value} (h0 : OwnI w B (.slice ao l.length cap) l) (ho1 : OwnI W1 B (.slice ao1 L'.length cap1) L') (hm1 : Mv (((w.alloc (.cells xs 38)).alloc (.cells xo 52)).alloc (.cells xr 38)) W1 (.slice ao l.length cap) (.slice ao1 L'.length cap1)) :
   OwnI (wrote5 W1 w.heap.size (w.heap.size + 1 + 1) (.slice ao1 L'.length cap1) (.int .i64 kind) (.slice ao1 L'.length cap1) (.bool false) (.int .i64 g)) B (.slice ao1 L'.length cap1) L' ∧ Mv w (wrote5 W1 w.heap.size (w.heap.size + 1 + 1) (.slice ao1 L'.length cap1) (.int .i64 kind) (.slice ao1 L'.length cap1) (.bool false) (.int .i64 g)) (.slice ao l.length cap) (.slice ao1 L'.length cap1) :=
 act_fin h0 (three_boxes w _ _ _).1 (three_boxes w _ _ _).2 hm1 ho1 (((But.refl _ _ _).set _ _ (.inl rfl) _).four _ (.inr rfl) _ _ _ _)

set_option maxHeartbeats 2000000 in
theorem actLine_any (kind g : Int) (hk : kind = 2 ∨ kind = 3) (l L' : List Int) (n' : Int) (v : Value) (code a b : Int) (hc : code ≠ 10) (B : Nat) (w : World) (ho : OwnI w B v l)
   (HC : Hid (∀ W, OwnI W B v l -> B <= W.heap.size -> Calls Tryz.prog 130 #[.int .i64 kind, v, .agg #[.int .i64 code, .int .i64 a, .int .i64 b]] W fun e w' => Acted B W v L' n' e w')) (hB : B <= w.heap.size) :
   Calls Tryz.prog 90 #[.agg #[.int .i64 kind, v, .bool false, .int .i64 g], .agg #[.int .i64 code, .int .i64 a, .int .i64 b]] w fun e w' => Did B w v (⟨kind, L', false, g⟩, n') e w' := by
 have HO := hide' ho
 have e10 : (code == 10) = false := beq_eq_false_iff_ne.2 hc
 obtain ⟨ao, cap, rfl⟩ := ho.shape
 have hv : ∀ b, (Value.slice ao l.length cap).ownBlock = some b -> b < w.heap.size := fun b h => (World.ownsRow.lt ho b h).2
 have HV := hide' hv
 clear ho hc hv
 rcases hk with rfl | rfl
 · go_enter Tryz.func90, Tryz.ntmps90
   go_wp2_with fail
   refine (HC.out _ (HO.out.alloc3 _ _ _) (by simp; omega)).mono ?_
   rintro e W1 ⟨v1, rfl, ho1, hm1⟩
   obtain ⟨ao1, cap1, rfl⟩ := ho1.shape
   have hbx := (Boxes.made w _ _ _).mv HV.out hm1
   obtain ⟨q0, -⟩ := hbx.s 0
   obtain ⟨q1, f1⟩ := hbx.s 1
   obtain ⟨q2, -⟩ := hbx.s 2
   obtain ⟨q3, -⟩ := hbx.s 3
   obtain ⟨r0, s0⟩ := hbx.r 0
   obtain ⟨r1, s1⟩ := hbx.r 1
   obtain ⟨r2, s2⟩ := hbx.r 2
   obtain ⟨r3, s3⟩ := hbx.r 3
   have HFIN := hide' (fun kind => actMid (kind := kind) (g := g) HO.out ho1 hm1)
   clear hbx ho1 hm1
   go_wp2
   refine bodyPost_ret (v := .tuple #[.agg #[.int .i64 2, .slice ao1 L'.length cap1, .bool false, .int .i64 g], .int .i64 n']) (by simp [results, Tryz.results90, go_sem, r0, r1, r2, r3]) rfl ?_
   exact ⟨_, rfl, HFIN.out _⟩
 · go_enter Tryz.func90, Tryz.ntmps90
   go_wp2_with fail
   refine (HC.out _ (HO.out.alloc3 _ _ _) (by simp; omega)).mono ?_
   rintro e W1 ⟨v1, rfl, ho1, hm1⟩
   obtain ⟨ao1, cap1, rfl⟩ := ho1.shape
   have hbx := (Boxes.made w _ _ _).mv HV.out hm1
   obtain ⟨q0, -⟩ := hbx.s 0
   obtain ⟨q1, f1⟩ := hbx.s 1
   obtain ⟨q2, -⟩ := hbx.s 2
   obtain ⟨q3, -⟩ := hbx.s 3
   obtain ⟨r0, s0⟩ := hbx.r 0
   obtain ⟨r1, s1⟩ := hbx.r 1
   obtain ⟨r2, s2⟩ := hbx.r 2
   obtain ⟨r3, s3⟩ := hbx.r 3
   have HFIN := hide' (fun kind => actMid (kind := kind) (g := g) HO.out ho1 hm1)
   clear hbx ho1 hm1
   go_wp2
   refine bodyPost_ret (v := .tuple #[.agg #[.int .i64 3, .slice ao1 L'.length cap1, .bool false, .int .i64 g], .int .i64 n']) (by simp [results, Tryz.results90, go_sem, r0, r1, r2, r3]) rfl ?_
   exact ⟨_, rfl, HFIN.out _⟩

set_option maxHeartbeats 2000000 in
theorem actStore_any (kind g : Int) (hk : kind = 4) (l L' : List Int) (n' : Int) (v : Value) (code a b : Int) (hc : code ≠ 10) (B : Nat) (w : World) (ho : OwnI w B v l)
   (HC : Hid (∀ W, OwnI W B v l -> B <= W.heap.size -> Calls Tryz.prog 131 #[v, .agg #[.int .i64 code, .int .i64 a, .int .i64 b]] W fun e w' => Acted B W v L' n' e w')) (hB : B <= w.heap.size) :
   Calls Tryz.prog 90 #[.agg #[.int .i64 kind, v, .bool false, .int .i64 g], .agg #[.int .i64 code, .int .i64 a, .int .i64 b]] w fun e w' => Did B w v (⟨kind, L', false, g⟩, n') e w' := by
 have HO := hide' ho
 have e10 : (code == 10) = false := beq_eq_false_iff_ne.2 hc
 obtain ⟨ao, cap, rfl⟩ := ho.shape
 have hv : ∀ b, (Value.slice ao l.length cap).ownBlock = some b -> b < w.heap.size := fun b h => (World.ownsRow.lt ho b h).2
 have HV := hide' hv
 clear ho hc hv
 subst hk
 all_goals
   go_enter Tryz.func90, Tryz.ntmps90
   go_wp2_with fail
   refine (HC.out _ (HO.out.alloc3 _ _ _) (by simp; omega)).mono ?_
   rintro e W1 ⟨v1, rfl, ho1, hm1⟩
   obtain ⟨ao1, cap1, rfl⟩ := ho1.shape
   have hbx := (Boxes.made w _ _ _).mv HV.out hm1
   obtain ⟨q0, -⟩ := hbx.s 0
   obtain ⟨q1, f1⟩ := hbx.s 1
   obtain ⟨q2, -⟩ := hbx.s 2
   obtain ⟨q3, -⟩ := hbx.s 3
   obtain ⟨r0, s0⟩ := hbx.r 0
   obtain ⟨r1, s1⟩ := hbx.r 1
   obtain ⟨r2, s2⟩ := hbx.r 2
   obtain ⟨r3, s3⟩ := hbx.r 3
   have HFIN := hide' (fun kind => actMid (kind := kind) (g := g) HO.out ho1 hm1)
   clear hbx ho1 hm1
   go_wp2
   refine bodyPost_ret (v := .tuple #[.agg #[.int .i64 4, .slice ao1 L'.length cap1, .bool false, .int .i64 g], .int .i64 n']) (by simp [results, Tryz.results90, go_sem, r0, r1, r2, r3]) rfl ?_
   exact ⟨_, rfl, HFIN.out _⟩

set_option maxHeartbeats 2000000 in
theorem actLedger_any (kind g : Int) (hk : kind = 5) (l L' : List Int) (n' : Int) (v : Value) (code a b : Int) (hc : code ≠ 10) (B : Nat) (w : World) (ho : OwnI w B v l)
   (HC : Hid (∀ W, OwnI W B v l -> B <= W.heap.size -> Calls Tryz.prog 132 #[v, .agg #[.int .i64 code, .int .i64 a, .int .i64 b]] W fun e w' => Acted B W v L' n' e w')) (hB : B <= w.heap.size) :
   Calls Tryz.prog 90 #[.agg #[.int .i64 kind, v, .bool false, .int .i64 g], .agg #[.int .i64 code, .int .i64 a, .int .i64 b]] w fun e w' => Did B w v (⟨kind, L', false, g⟩, n') e w' := by
 have HO := hide' ho
 have e10 : (code == 10) = false := beq_eq_false_iff_ne.2 hc
 obtain ⟨ao, cap, rfl⟩ := ho.shape
 have hv : ∀ b, (Value.slice ao l.length cap).ownBlock = some b -> b < w.heap.size := fun b h => (World.ownsRow.lt ho b h).2
 have HV := hide' hv
 clear ho hc hv
 subst hk
 all_goals
   go_enter Tryz.func90, Tryz.ntmps90
   go_wp2_with fail
   refine (HC.out _ (HO.out.alloc3 _ _ _) (by simp; omega)).mono ?_
   rintro e W1 ⟨v1, rfl, ho1, hm1⟩
   obtain ⟨ao1, cap1, rfl⟩ := ho1.shape
   have hbx := (Boxes.made w _ _ _).mv HV.out hm1
   obtain ⟨q0, -⟩ := hbx.s 0
   obtain ⟨q1, f1⟩ := hbx.s 1
   obtain ⟨q2, -⟩ := hbx.s 2
   obtain ⟨q3, -⟩ := hbx.s 3
   obtain ⟨r0, s0⟩ := hbx.r 0
   obtain ⟨r1, s1⟩ := hbx.r 1
   obtain ⟨r2, s2⟩ := hbx.r 2
   obtain ⟨r3, s3⟩ := hbx.r 3
   have HFIN := hide' (fun kind => actMid (kind := kind) (g := g) HO.out ho1 hm1)
   clear hbx ho1 hm1
   go_wp2
   refine bodyPost_ret (v := .tuple #[.agg #[.int .i64 5, .slice ao1 L'.length cap1, .bool false, .int .i64 g], .int .i64 n']) (by simp [results, Tryz.results90, go_sem, r0, r1, r2, r3]) rfl ?_
   exact ⟨_, rfl, HFIN.out _⟩

set_option maxHeartbeats 1000000 in
theorem mayLine_any (v : Value) (l : List Int) (a b : Nat) (w : World) (hr : RdI w v l) (ha : w.cell? ⟨a, 0, none⟩ = some (.int .i64 (-1099511627776))) (hb : w.cell? ⟨b, 0, none⟩ = some (.int .i64 1099511627776)) :
   Calls Tryz.prog 174 #[v, .func (.func 173) #[] #[.pointer (some ⟨a, 0, none⟩), .pointer (some ⟨b, 0, none⟩)]] w fun e w' => e = .returned (.bool (decide (l.length <= 64 ∧ InBounds l))) ∧ w' = w := by
 have HI := hide' (fun n => is_any n _ _ a b w ha hb)
 obtain ⟨ao, cap, rfl, -, -, -, -, hao⟩ := hr
 have HAO := hide' hao
 clear hao ha hb
 obtain ⟨R, hR⟩ : ∃ R, R = decide (l.length <= 64 ∧ InBounds l) := ⟨_, rfl⟩
 rw [<- hR]
 have HR := hide' hR
 clear hR
 by_cases h64 : l.length <= 64
 · have hq : ¬ (64 < (l.length : Int)) := by omega
   go_enter Tryz.func174, Tryz.ntmps174
   go_wp2
   go_loop [12] (fun i => ∃ k : Nat, i = .int .i64 k ∧ k <= l.length ∧ Hid (∀ j, j < k -> -1099511627776 <= l.getD j 0 ∧ l.getD j 0 <= 1099511627776)) (fun i => l.length - (intOf i).toNat)
   case atStart => exact ⟨0, rfl, Nat.zero_le _, fun j hj => by omega⟩
   case round =>
     obtain ⟨k, rfl, hk, hall⟩ := hrel
     by_cases hlt : k < l.length
     · rcases HAO.out with h0 | ⟨g, off, rfl, hc⟩
       · rw [h0] at hlt; simp at hlt
       have hck := hc k hlt
       clear hc
       obtain ⟨y, hy⟩ : ∃ y, y = l.getD k 0 := ⟨_, rfl⟩
       rw [<- hy] at hck
       have HY := hide' hy
       clear hy
       by_cases hin : -1099511627776 <= y ∧ y <= 1099511627776
       · have HD := hide' (decide_eq_true hin)
         have HN := hide' hin
         clear hin
         go_wp2_with (first | (go_at_call 173; refine (HI.out _).mono ?_; rintro e w2 ⟨rfl, rfl⟩; rw [HD.out]))
         go_round
         case rel =>
           refine ⟨k + 1, by go_num, by omega, fun j hj => ?_⟩
           by_cases e : j = k
           · rw [e, <- HY.out]; exact HN.out
           · exact hall.out j (by omega)
         case measure => simp [intOf]; omega
       · have HD := hide' (decide_eq_false hin)
         have HN := hide' hin
         clear hin
         go_wp2_with (first | (go_at_call 173; refine (HI.out _).mono ?_; rintro e w2 ⟨rfl, rfl⟩; rw [HD.out]))
         go_ret
         refine ⟨ret_b (HR.out.trans (decide_eq_false fun h => HN.out ?_)).symm, rfl⟩
         rw [HY.out]
         exact h.2 k hlt
     · go_wp2
       go_ret
       exact ⟨ret_b (HR.out.trans (decide_eq_true ⟨h64, fun j hj => hall.out j (by omega)⟩)).symm, rfl⟩
 · have hq : 64 < (l.length : Int) := by omega
   have HD : Hid (decide (l.length <= 64 ∧ InBounds l) = false) := decide_eq_false (fun h => h64 h.1)
   go_enter Tryz.func174, Tryz.ntmps174
   go_wp2
   go_ret
   exact ⟨ret_b (HR.out.trans HD.out).symm, rfl⟩

def leastAt (l : List Int) (k : Nat) : Int := if k = 0 then 0 else l.getD (k - 2) 0 + 1

theorem pairAt_least {lo : Int} {l : List Int} {k : Nat} (hk : k % 2 = 0) (hall : ∀ j, j < k -> j % 2 = 0 -> PairAt lo l j) : PairAt lo l k ↔ (leastAt l k <= l.getD k 0 ∧ l.getD k 0 <= 255) ∧ lo <= l.getD (k + 1) 0 ∧ l.getD (k + 1) 0 <= 1099511627776 := by
 unfold PairAt leastAt
 by_cases h0 : k = 0
 · subst h0
   simp
   omega
 · rw [if_neg h0]
   have hp := (hall (k - 2) (by omega) (by omega)).1
   constructor
   · rintro ⟨h1, h2, h3, h4, h5⟩
     exact ⟨⟨by have := h3 (by omega); omega, h2⟩, h4, h5⟩
   · rintro ⟨⟨h1, h2⟩, h4, h5⟩
     exact ⟨by omega, h2, fun _ => by omega, h4, h5⟩

set_option maxHeartbeats 1000000 in
theorem mayPairs_any (v : Value) (l : List Int) (lo : Int) (a b : Nat) (w : World) (hr : RdI w v l) (ha : w.cell? ⟨a, 0, none⟩ = some (.int .i64 lo)) (hb : w.cell? ⟨b, 0, none⟩ = some (.int .i64 1099511627776)) :
   Calls Tryz.prog 175 #[v, .func (.func 173) #[] #[.pointer (some ⟨a, 0, none⟩), .pointer (some ⟨b, 0, none⟩)]] w fun e w' => e = .returned (.bool (decide (PairsOk lo l))) ∧ Below w.heap.size w w' := by
 have HI : Hid (∀ n W, Below w.heap.size w W -> Calls Tryz.prog 173 #[.int .i64 n, .pointer (some ⟨a, 0, none⟩), .pointer (some ⟨b, 0, none⟩)] W fun e w' => e = .returned (.bool (decide (lo <= n ∧ n <= 1099511627776))) ∧ w' = W) := fun n W h =>
   is_any n _ _ a b W ((h.cell (World.block_lt_of_cell? w ⟨a, 0, none⟩ ha)).trans ha) ((h.cell (World.block_lt_of_cell? w ⟨b, 0, none⟩ hb)).trans hb)
 have HS := hide' (fun n l2 h2 a2 b2 W p1 p2 => is_any n l2 h2 a2 b2 W p1 p2)
 have HW := hide' (fun p q W => within_any p q W)
 obtain ⟨ao, cap, rfl, -, -, -, -, hao⟩ := hr
 have HAO := hide' hao
 clear hao ha hb
 obtain ⟨R, hR⟩ : ∃ R, R = decide (PairsOk lo l) := ⟨_, rfl⟩
 rw [<- hR]
 have HR := hide' hR
 clear hR
 by_cases he : l.length % 2 = 0
 · by_cases h128 : l.length <= 128
   · have hq1 : (((l.length : Int).tmod 2) != 0) = false := by rw [bne_eq_false_iff_eq, Int.tmod_eq_emod_of_nonneg (by omega)]; omega
     have hq : ¬ (128 < (l.length : Int)) := by omega
     go_enter Tryz.func175, Tryz.ntmps175
     go_wp2
     go_loopw [5, 6] (fun y i wr => ∃ k : Nat, y = .int .i64 (leastAt l k) ∧ i = .int .i64 k ∧ k <= l.length ∧ k % 2 = 0 ∧ Hid (∀ j, j < k -> j % 2 = 0 -> PairAt lo l j) ∧ Hid (Below w.heap.size w wr)) (fun _ i _ => l.length - (intOf i).toNat)
     case atStart => exact ⟨0, rfl, rfl, Nat.zero_le _, rfl, fun j hj => by omega, Below.refl _ _⟩
     case round =>
       obtain ⟨k, rfl, rfl, hk, hk2, hall, hbel⟩ := hrel
       by_cases hlt : k < l.length
       · rcases HAO.out with h0 | ⟨g, off, rfl, hc⟩
         · rw [h0] at hlt; simp at hlt
         have hlt1 : k + 1 < l.length := by omega
         have HC0 : Hid (∀ W, Below w.heap.size w W -> W.cell? ⟨g, off + k, none⟩ = some (.int .i64 (l.getD k 0))) := fun W h => (h.cell (World.block_lt_of_cell? w ⟨g, off + k, none⟩ (hc k hlt))).trans (hc k hlt)
         have HC1 : Hid (∀ W, Below w.heap.size w W -> W.cell? ⟨g, off + (k + 1), none⟩ = some (.int .i64 (l.getD (k + 1) 0))) := fun W h => (h.cell (World.block_lt_of_cell? w ⟨g, off + (k + 1), none⟩ (hc (k + 1) hlt1))).trans (hc (k + 1) hlt1)
         clear hc
         have HP := hide' (pairAt_least (lo := lo) hk2 hall.out)
         have HLS : Hid (leastAt l (k + 2) = l.getD k 0 + 1) := by
           unfold leastAt
           rw [if_neg (by omega)]
           exact rfl
         generalize leastAt l k = ls at *
         obtain ⟨y, hy⟩ : ∃ y, y = l.getD k 0 := ⟨_, rfl⟩
         obtain ⟨z, hz⟩ : ∃ z, z = l.getD (k + 1) 0 := ⟨_, rfl⟩
         rw [<- hy] at HC0 HP HLS
         rw [<- hz] at HC1 HP
         have HEY := hide' hy
         clear hy hz
         by_cases hy : ls <= y ∧ y <= 255
         · have HD1 := hide' (decide_eq_true hy)
           have HY := hide' hy
           by_cases hz : lo <= z ∧ z <= 1099511627776
           · have HD2 := hide' (decide_eq_true hz)
             have HZ := hide' hz
             have hy255 := hy.2
             have hy0 : 0 <= y := by rw [HEY.out]; exact (HP.out.2 ⟨HY.out, HZ.out⟩).1
             clear hy hz
             go_wp2_with fail
             refine (HW.out _ _ _).mono ?_
             rintro e W1 ⟨a2, b2, rfl, hc1, hc2, hb1⟩
             have HB1 := hide' (hbel.out.trans (hb1.mono hbel.out.size))
             have hg0 := HC0.out _ HB1.out
             have hg1 := HC1.out _ HB1.out
             clear hb1
             go_wp2_with fail
             refine (HS.out _ _ _ _ _ _ hc1 hc2).mono ?_
             rintro e W2 ⟨rfl, rfl⟩
             rw [HD1.out]
             go_wp2_with fail
             refine (HI.out _ _ HB1.out).mono ?_
             rintro e W3 ⟨rfl, rfl⟩
             rw [HD2.out]
             go_wp2
             go_roundw
             case rel =>
               refine ⟨k + 2, by rw [HLS.out], by go_num, by omega, by omega, fun j hj hj2 => ?_, HB1⟩
               by_cases e : j = k
               · rw [e]; exact HP.out.2 ⟨HY.out, HZ.out⟩
               · exact hall.out j (by omega) hj2
             case measure => simp [intOf]; omega
           · have HD2 := hide' (decide_eq_false hz)
             have HZ := hide' hz
             clear hy hz
             go_wp2_with fail
             refine (HW.out _ _ _).mono ?_
             rintro e W1 ⟨a2, b2, rfl, hc1, hc2, hb1⟩
             have HB1 := hide' (hbel.out.trans (hb1.mono hbel.out.size))
             have hg0 := HC0.out _ HB1.out
             have hg1 := HC1.out _ HB1.out
             clear hb1
             go_wp2_with fail
             refine (HS.out _ _ _ _ _ _ hc1 hc2).mono ?_
             rintro e W2 ⟨rfl, rfl⟩
             rw [HD1.out]
             go_wp2_with fail
             refine (HI.out _ _ HB1.out).mono ?_
             rintro e W3 ⟨rfl, rfl⟩
             rw [HD2.out]
             go_wp2
             go_ret
             exact ⟨ret_b (HR.out.trans (decide_eq_false fun h => HZ.out (HP.out.1 (h.2.2 k hlt hk2)).2)).symm, HB1.out⟩
         · have HD1 := hide' (decide_eq_false hy)
           have HY := hide' hy
           clear hy
           go_wp2_with fail
           refine (HW.out _ _ _).mono ?_
           rintro e W1 ⟨a2, b2, rfl, hc1, hc2, hb1⟩
           have HB1 := hide' (hbel.out.trans (hb1.mono hbel.out.size))
           have hg0 := HC0.out _ HB1.out
           have hg1 := HC1.out _ HB1.out
           clear hb1
           go_wp2_with fail
           refine (HS.out _ _ _ _ _ _ hc1 hc2).mono ?_
           rintro e W2 ⟨rfl, rfl⟩
           rw [HD1.out]
           go_wp2
           go_ret
           exact ⟨ret_b (HR.out.trans (decide_eq_false fun h => HY.out (HP.out.1 (h.2.2 k hlt hk2)).1)).symm, HB1.out⟩
       · go_wp2
         go_ret
         exact ⟨ret_b (HR.out.trans (decide_eq_true ⟨he, h128, fun j hj hj2 => hall.out j (by omega) hj2⟩)).symm, hbel.out⟩
   · have hq1 : (((l.length : Int).tmod 2) != 0) = false := by rw [bne_eq_false_iff_eq, Int.tmod_eq_emod_of_nonneg (by omega)]; omega
     have hq : 128 < (l.length : Int) := by omega
     have HD : Hid (decide (PairsOk lo l) = false) := decide_eq_false (fun h => h128 h.2.1)
     go_enter Tryz.func175, Tryz.ntmps175
     go_wp2
     go_ret
     exact ⟨ret_b (HR.out.trans HD.out).symm, Below.refl _ _⟩
 · have hq1 : (((l.length : Int).tmod 2) != 0) = true := by rw [bne_iff_ne, Int.tmod_eq_emod_of_nonneg (by omega)]; omega
   have HD : Hid (decide (PairsOk lo l) = false) := decide_eq_false (fun h => he h.1)
   go_enter Tryz.func175, Tryz.ntmps175
   go_wp2
   go_ret
   exact ⟨ret_b (HR.out.trans HD.out).symm, Below.refl _ _⟩

theorem nums_one {kind : Int} (hk : kind = 0 ∨ kind = 1) (l : List Int) : (0 <= kind ∧ kind < 6 ∧ NumsOk kind l) ↔ l.length = 1 ∧ -1099511627776 <= l.getD 0 0 ∧ l.getD 0 0 <= 1099511627776 := by
 rw [numsOk_list (by omega) (by omega)]
 constructor
 · rintro ⟨_, _, _, h1, h2⟩
   exact ⟨h1 (by omega), h2 0 (by have := h1 (by omega); omega)⟩
 · rintro ⟨h1, h2⟩
   refine ⟨by omega, by omega, by omega, fun _ => h1, fun j hj => ?_⟩
   have e : j = 0 := by omega
   rw [e]
   exact h2

theorem nums_line {kind : Int} (hk : kind = 2 ∨ kind = 3) (l : List Int) : (0 <= kind ∧ kind < 6 ∧ NumsOk kind l) ↔ l.length <= 64 ∧ InBounds l := by
 rw [numsOk_list (by omega) (by omega)]
 constructor
 · rintro ⟨_, _, h1, _, h2⟩
   exact ⟨h1, h2⟩
 · rintro ⟨h1, h2⟩
   exact ⟨by omega, by omega, h1, fun h => by omega, h2⟩

theorem nums_store (l : List Int) : (0 <= (4 : Int) ∧ (4 : Int) < 6 ∧ NumsOk 4 l) ↔ PairsOk (-1099511627776) l := by
 unfold NumsOk
 rw [if_pos rfl]
 exact ⟨fun h => h.2.2, fun h => ⟨by decide, by decide, h⟩⟩

theorem nums_ledger (l : List Int) : (0 <= (5 : Int) ∧ (5 : Int) < 6 ∧ NumsOk 5 l) ↔ PairsOk 0 l := by
 unfold NumsOk
 rw [if_neg (by decide), if_pos rfl]
 exact ⟨fun h => h.2.2, fun h => ⟨by decide, by decide, h⟩⟩

set_option maxRecDepth 100000 in
set_option maxHeartbeats 1000000 in
theorem mayNumbers_any (kind : Int) (v : Value) (l : List Int) (w : World) (hr : RdI w v l) :
   Calls Tryz.prog 126 #[.int .i64 kind, v] w fun e w' => e = .returned (.bool (decide (0 <= kind ∧ kind < 6 ∧ NumsOk kind l))) ∧ Below w.heap.size w w' := by
 have HW := hide' (fun p q W => within_any p q W)
 have HRD : Hid (∀ W, Below w.heap.size w W -> RdI W v l) := fun W h => hr.below h (Nat.le_refl _)
 obtain ⟨R, hR⟩ : ∃ R, R = decide (0 <= kind ∧ kind < 6 ∧ NumsOk kind l) := ⟨_, rfl⟩
 rw [<- hR]
 have HR := hide' hR
 clear hR
 by_cases h01 : kind = 0 ∨ kind = 1
 · have HN := hide' (nums_one h01 l)
   have hx : ((kind == 0) = true) ∨ ((kind == 0) = false ∧ (kind == 1) = true) := by
     rcases h01 with rfl | rfl
     · exact .inl rfl
     · exact .inr ⟨rfl, rfl⟩
   have HS := hide' (fun n l2 h2 a2 b2 W p1 p2 => is_any n l2 h2 a2 b2 W p1 p2)
   obtain ⟨ao, cap, rfl, -, -, -, -, hao⟩ := hr
   have HAO := hide' hao
   clear hao h01 HRD
   by_cases hl : l.length = 1
   · rcases HAO.out with h0 | ⟨g, off, rfl, hc⟩
     · rw [h0] at hl; simp at hl
     have HC0 : Hid (∀ W, Below w.heap.size w W -> W.cell? ⟨g, off, none⟩ = some (.int .i64 (l.getD 0 0))) := fun W h => (h.cell (World.block_lt_of_cell? w ⟨g, off, none⟩ (hc 0 (by omega)))).trans (hc 0 (by omega))
     clear hc HAO
     have HL := hide' hl
     rw [hl]
     clear hl
     obtain ⟨y, hy⟩ : ∃ y, y = l.getD 0 0 := ⟨_, rfl⟩
     rw [<- hy] at HC0 HN
     clear hy
     rcases hx with hx | ⟨hx, hx'⟩
     all_goals
       go_enter Tryz.func126, Tryz.ntmps126
       go_wp2_with fail
       refine (HW.out _ _ _).mono ?_
       rintro e W1 ⟨a2, b2, rfl, hc1, hc2, hb1⟩
       have HB1 := hide' hb1
       have hg0 := HC0.out _ hb1
       clear hb1
       go_wp2_with fail
       refine (HS.out _ _ _ _ _ _ hc1 hc2).mono ?_
       rintro e W2 ⟨rfl, rfl⟩
       go_wp2
       go_ret
       refine ⟨ret_b ?_, HB1.out⟩
       rw [HR.out, <- Bool.decide_and]
       exact decide_eq_decide.2 ⟨fun h => HN.out.2 ⟨HL.out, h⟩, fun h => (HN.out.1 h).2⟩
   · have hq : ((l.length : Int) == 1) = false := beq_eq_false_iff_ne.2 (by omega)
     have HD : Hid (decide (0 <= kind ∧ kind < 6 ∧ NumsOk kind l) = false) := decide_eq_false (fun h => hl (HN.out.1 h).1)
     clear hl
     rcases hx with hx | ⟨hx, hx'⟩
     all_goals
       go_enter Tryz.func126, Tryz.ntmps126
       go_wp2_with fail
       refine (HW.out _ _ _).mono ?_
       rintro e W1 ⟨a2, b2, rfl, hc1, hc2, hb1⟩
       have HB1 := hide' hb1
       clear hb1
       go_wp2
       go_ret
       exact ⟨ret_b (HR.out.trans HD.out).symm, HB1.out⟩
 · have e0 : (kind == 0) = false := beq_eq_false_iff_ne.2 (by omega)
   have e1 : (kind == 1) = false := beq_eq_false_iff_ne.2 (by omega)
   by_cases h23 : kind = 2 ∨ kind = 3
   · have HN := hide' (nums_line h23 l)
     have hx : ((kind == 2) = true) ∨ ((kind == 2) = false ∧ (kind == 3) = true) := by
       rcases h23 with rfl | rfl
       · exact .inl rfl
       · exact .inr ⟨rfl, rfl⟩
     have HS := hide' (fun a2 b2 W p1 p2 p3 => mayLine_any v l a2 b2 W p1 p2 p3)
     clear h01 h23 hr
     rcases hx with hx | ⟨hx, hx'⟩
     all_goals
       go_enter Tryz.func126, Tryz.ntmps126
       go_wp2_with fail
       refine (HW.out _ _ _).mono ?_
       rintro e W1 ⟨a2, b2, rfl, hc1, hc2, hb1⟩
       have HB1 := hide' hb1
       clear hb1
       go_wp2_with fail
       refine (HS.out _ _ _ (HRD.out _ HB1.out) hc1 hc2).mono ?_
       rintro e W2 ⟨rfl, rfl⟩
       go_wp2
       go_ret
       refine ⟨ret_b ?_, HB1.out⟩
       rw [HR.out, <- Bool.decide_and]
       exact decide_eq_decide.2 HN.out.symm
   · have e2 : (kind == 2) = false := beq_eq_false_iff_ne.2 (by omega)
     have e3 : (kind == 3) = false := beq_eq_false_iff_ne.2 (by omega)
     have HS := hide' (fun lo a2 b2 W p1 p2 p3 => mayPairs_any v l lo a2 b2 W p1 p2 p3)
     clear h01 h23 hr
     by_cases h4 : kind = 4
     · have e4 : (kind == 4) = true := beq_iff_eq.2 h4
       have HN : Hid (PairsOk (-1099511627776) l ↔ (0 <= kind ∧ kind < 6 ∧ NumsOk kind l)) := by rw [h4]; exact (nums_store l).symm
       clear h4
       go_enter Tryz.func126, Tryz.ntmps126
       go_wp2_with fail
       refine (HW.out _ _ _).mono ?_
       rintro e W1 ⟨a2, b2, rfl, hc1, hc2, hb1⟩
       have HB1 := hide' hb1
       clear hb1
       go_wp2_with fail
       refine (HS.out _ _ _ _ (HRD.out _ HB1.out) hc1 hc2).mono ?_
       rintro e W2 ⟨rfl, hb2⟩
       have HB2 := hide' (HB1.out.trans (hb2.mono HB1.out.size))
       clear hb2
       go_wp2
       go_ret
       refine ⟨ret_b ?_, HB2.out⟩
       rw [HR.out]
       exact decide_eq_decide.2 HN.out
     · have e4 : (kind == 4) = false := beq_eq_false_iff_ne.2 h4
       by_cases h5 : kind = 5
       · have e5 : (kind == 5) = true := beq_iff_eq.2 h5
         have HN : Hid (PairsOk 0 l ↔ (0 <= kind ∧ kind < 6 ∧ NumsOk kind l)) := by rw [h5]; exact (nums_ledger l).symm
         clear h4 h5
         go_enter Tryz.func126, Tryz.ntmps126
         go_wp2_with fail
         refine (HW.out _ _ _).mono ?_
         rintro e W1 ⟨a1, b1, rfl, _, _, hb1⟩
         have HB1 := hide' hb1
         clear hb1
         go_wp2_with fail
         refine (HW.out _ _ _).mono ?_
         rintro e W2 ⟨a2, b2, rfl, hc1, hc2, hb2⟩
         have HB2 := hide' (HB1.out.trans (hb2.mono HB1.out.size))
         clear hb2
         go_wp2_with fail
         refine (HS.out _ _ _ _ (HRD.out _ HB2.out) hc1 hc2).mono ?_
         rintro e W3 ⟨rfl, hb3⟩
         have HB3 := hide' (HB2.out.trans (hb3.mono HB2.out.size))
         clear hb3
         go_wp2
         go_ret
         refine ⟨ret_b ?_, HB3.out⟩
         rw [HR.out]
         exact decide_eq_decide.2 HN.out
       · have e5 : (kind == 5) = false := beq_eq_false_iff_ne.2 h5
         have HD : Hid (decide (0 <= kind ∧ kind < 6 ∧ NumsOk kind l) = false) := decide_eq_false (fun h => by
           have n0 : kind ≠ 0 := beq_eq_false_iff_ne.1 e0
           have n1 : kind ≠ 1 := beq_eq_false_iff_ne.1 e1
           have n2 : kind ≠ 2 := beq_eq_false_iff_ne.1 e2
           have n3 : kind ≠ 3 := beq_eq_false_iff_ne.1 e3
           omega)
         clear h4 h5
         go_enter Tryz.func126, Tryz.ntmps126
         go_wp2_with fail
         refine (HW.out _ _ _).mono ?_
         rintro e W1 ⟨a1, b1, rfl, _, _, hb1⟩
         have HB1 := hide' hb1
         clear hb1
         go_wp2
         go_ret
         exact ⟨ret_b (HR.out.trans HD.out).symm, HB1.out⟩

theorem may_split (kind : Int) (l : List Int) (shut : Bool) (g : Int) : MayS ⟨kind, l, shut, g⟩ ↔ (shut = false -> g = 0) ∧ (0 <= g ∧ g <= 2) ∧ (0 <= kind ∧ kind < 6 ∧ NumsOk kind l) :=
 ⟨fun h => ⟨h.2.2.1, ⟨h.1, h.2.1⟩, h.2.2.2.1, h.2.2.2.2.1, h.2.2.2.2.2⟩, fun h => ⟨h.2.1.1, h.2.1.2, h.1, h.2.2.1, h.2.2.2.1, h.2.2.2.2⟩⟩

set_option maxRecDepth 100000 in
set_option maxHeartbeats 1000000 in
theorem may_any (v : Value) (s : St) (w : World) (hs : StV w v s) :
   Calls Tryz.prog 89 #[v] w fun e w' => e = .returned (.bool (decide (MayS s))) ∧ Below w.heap.size w w' := by
 obtain ⟨vl, rfl, hr, -, -⟩ := hs
 obtain ⟨kind, l, shut, g⟩ := s
 simp only at hr ⊢
 have HW := hide' (fun p q W => within_any p q W)
 have HS := hide' (fun n l2 h2 a2 b2 W p1 p2 => is_any n l2 h2 a2 b2 W p1 p2)
 have HMN : Hid (∀ W, Below w.heap.size w W -> Calls Tryz.prog 126 #[.int .i64 kind, vl] W fun e w' => e = .returned (.bool (decide (0 <= kind ∧ kind < 6 ∧ NumsOk kind l))) ∧ Below W.heap.size W w') := fun W h => mayNumbers_any kind vl l W (hr.below h (Nat.le_refl _))
 have HM := hide' (may_split kind l shut g)
 obtain ⟨R, hR⟩ : ∃ R, R = decide (MayS ⟨kind, l, shut, g⟩) := ⟨_, rfl⟩
 rw [<- hR]
 have HR := hide' hR
 have HBA : Hid (∀ x, Below w.heap.size w (w.alloc x)) := fun x => (Below.refl _ _).alloc (Nat.le_refl _) x
 clear hR hr
 by_cases hbad : shut = false ∧ g ≠ 0
 · obtain ⟨rfl, hg⟩ := hbad
   have hq : (g != 0) = true := bne_iff_ne.2 hg
   have HD : Hid (decide (MayS ⟨kind, l, false, g⟩) = false) := decide_eq_false (fun h => hg ((HM.out.1 h).1 rfl))
   clear hg
   go_enter Tryz.func89, Tryz.ntmps89
   go_wp2
   go_ret
   exact ⟨ret_b (HR.out.trans HD.out).symm, HBA.out _⟩
 · have hx : ((g != 0) = false) ∨ ((g != 0) = true ∧ shut = true) := by
     by_cases h0 : g = 0
     · exact .inl (bne_eq_false_iff_eq.2 h0)
     · cases shut
       · exact absurd ⟨rfl, h0⟩ hbad
       · exact .inr ⟨bne_iff_ne.2 h0, rfl⟩
   have HB : Hid (shut = false -> g = 0) := fun h => by
     by_cases h0 : g = 0
     · exact h0
     · exact absurd ⟨h, h0⟩ hbad
   clear hbad
   by_cases hin : 0 <= g ∧ g <= 2
   · have HN := hide' (decide_eq_true hin)
     have HI := hide' hin
     clear hin
     have HF : Hid (decide (0 <= kind ∧ kind < 6 ∧ NumsOk kind l) = R) := by
       rw [HR.out]
       exact decide_eq_decide.2 ⟨fun h => HM.out.2 ⟨HB.out, HI.out, h⟩, fun h => (HM.out.1 h).2.2⟩
     rcases hx with hx | ⟨hx, rfl⟩
     all_goals
       go_enter Tryz.func89, Tryz.ntmps89
       go_wp2_with fail
       refine (HW.out _ _ _).mono ?_
       rintro e W1 ⟨a1, b1, rfl, hc1, hc2, hb1⟩
       have hbx := (hb1.block w.heap.size (by simp)).trans (heap_alloc_new w _)
       have q0 := cell_of_row W1 w.heap.size 0 _ _ _ hbx
       have q1 := cell_of_row W1 w.heap.size 1 _ _ _ hbx
       have q3 := cell_of_row W1 w.heap.size 3 _ _ _ hbx
       have HB1 := hide' ((HBA.out _).trans (hb1.mono (HBA.out _).size))
       clear hb1 hbx
       go_wp2_with fail
       refine (HS.out _ _ _ _ _ _ hc1 hc2).mono ?_
       rintro e W2 ⟨rfl, rfl⟩
       rw [HN.out]
       go_wp2_with fail
       refine (HMN.out _ HB1.out).mono ?_
       rintro e W3 ⟨rfl, hb3⟩
       rw [HF.out]
       have HB3 := hide' (HB1.out.trans (hb3.mono HB1.out.size))
       clear hb3
       go_wp2
       go_ret
       exact ⟨rfl, HB3.out⟩
   · have HN := hide' (decide_eq_false hin)
     have HF : Hid (R = false) := HR.out.trans (decide_eq_false fun h => hin (HM.out.1 h).2.1)
     clear hin
     rcases hx with hx | ⟨hx, rfl⟩
     all_goals
       go_enter Tryz.func89, Tryz.ntmps89
       go_wp2_with fail
       refine (HW.out _ _ _).mono ?_
       rintro e W1 ⟨a1, b1, rfl, hc1, hc2, hb1⟩
       have hbx := (hb1.block w.heap.size (by simp)).trans (heap_alloc_new w _)
       have q3 := cell_of_row W1 w.heap.size 3 _ _ _ hbx
       have HB1 := hide' ((HBA.out _).trans (hb1.mono (HBA.out _).size))
       clear hb1 hbx
       go_wp2_with fail
       refine (HS.out _ _ _ _ _ _ hc1 hc2).mono ?_
       rintro e W2 ⟨rfl, rfl⟩
       rw [HN.out]
       go_wp2
       go_ret
       exact ⟨ret_b HF.out.symm, HB1.out⟩

set_option maxRecDepth 100000 in
set_option maxHeartbeats 1000000 in
theorem fits_any (o : Opn) (w : World) :
   Calls Tryz.prog 87 #[opV o] w fun e w' => e = .returned (.bool (decide (FitsO o))) ∧ Below w.heap.size w w' := by
 obtain ⟨code, a, b⟩ := o
 have HW := hide' (fun p q W => within_any p q W)
 have HS := hide' (fun n l2 h2 a2 b2 W p1 p2 => is_any n l2 h2 a2 b2 W p1 p2)
 have HM : Hid (FitsO ⟨code, a, b⟩ ↔ (0 <= code ∧ code <= 10) ∧ (-1099511627776 <= a ∧ a <= 1099511627776) ∧ (-1099511627776 <= b ∧ b <= 1099511627776)) :=
   ⟨fun h => ⟨⟨h.1, h.2.1⟩, ⟨h.2.2.1, h.2.2.2.1⟩, h.2.2.2.2⟩, fun h => ⟨h.1.1, h.1.2, h.2.1.1, h.2.1.2, h.2.2⟩⟩
 obtain ⟨R, hR⟩ : ∃ R, R = decide (FitsO ⟨code, a, b⟩) := ⟨_, rfl⟩
 rw [<- hR]
 have HR := hide' hR
 have HBA : Hid (∀ x, Below w.heap.size w (w.alloc x)) := fun x => (Below.refl _ _).alloc (Nat.le_refl _) x
 clear hR
 have go : ∀ t1 t2 t3, Hid (decide (0 <= code ∧ code <= 10) = t1) -> Hid (decide (-1099511627776 <= a ∧ a <= 1099511627776) = t2) -> Hid (decide (-1099511627776 <= b ∧ b <= 1099511627776) = t3) -> Hid ((t1 && t2 && t3) = R) ->
     Calls Tryz.prog 87 #[.agg #[.int .i64 code, .int .i64 a, .int .i64 b]] w fun e w' => e = .returned (.bool R) ∧ Below w.heap.size w w' := by
   intro t1 t2 t3 H1 H2 H3 HF
   go_enter Tryz.func87, Tryz.ntmps87
   go_wp2_with fail
   refine (HW.out _ _ _).mono ?_
   rintro e W1 ⟨a1, b1, rfl, hc1, hc2, hb1⟩
   have HB1 := hide' ((HBA.out _).trans (hb1.mono (HBA.out _).size))
   have HX1 := hide' ((hb1.block w.heap.size (by simp)).trans (heap_alloc_new w _))
   have HC1 := hide' hc1
   have HC2 := hide' hc2
   clear hb1 hc1 hc2
   go_wp2_with fail
   refine (HW.out _ _ _).mono ?_
   rintro e W2 ⟨a2, b2, rfl, hd1, hd2, hb2⟩
   have hx := (hb2.block w.heap.size (Array.getElem?_eq_some_iff.1 HX1.out).1).trans HX1.out
   have q0 := cell_of_row W2 w.heap.size 0 _ _ _ hx
   have q1 := cell_of_row W2 w.heap.size 1 _ _ _ hx
   have q2 := cell_of_row W2 w.heap.size 2 _ _ _ hx
   have hc1 := (hb2.cell (World.block_lt_of_cell? W1 ⟨a1, 0, none⟩ HC1.out)).trans HC1.out
   have hc2 := (hb2.cell (World.block_lt_of_cell? W1 ⟨b1, 0, none⟩ HC2.out)).trans HC2.out
   have HB2 := hide' (HB1.out.trans (hb2.mono HB1.out.size))
   have HC1' := hide' hc1
   have HC2' := hide' hc2
   have HD1' := hide' hd1
   have HD2' := hide' hd2
   clear hb2 hx HX1 HC1 HC2 hc1 hc2 hd1 hd2
   go_wp2_with fail
   refine (HS.out _ _ _ _ _ _ HC1'.out HC2'.out).mono ?_
   rintro e W3 ⟨rfl, rfl⟩
   rw [H1.out]
   cases t1
   · go_wp2
     go_ret
     exact ⟨ret_b (by rw [<- HF.out]; rfl), HB2.out⟩
   · go_wp2_with fail
     refine (HS.out _ _ _ _ _ _ HD1'.out HD2'.out).mono ?_
     rintro e W3 ⟨rfl, rfl⟩
     rw [H2.out]
     cases t2
     · go_wp2
       go_ret
       exact ⟨ret_b (by rw [<- HF.out]; rfl), HB2.out⟩
     · go_wp2_with fail
       refine (HS.out _ _ _ _ _ _ HD1'.out HD2'.out).mono ?_
       rintro e W3 ⟨rfl, rfl⟩
       rw [H3.out]
       go_wp2
       go_ret
       exact ⟨ret_b (by rw [<- HF.out]; rfl), HB2.out⟩
 refine go _ _ _ rfl rfl rfl (hide' ?_)
 rw [HR.out, <- Bool.decide_and, <- Bool.decide_and]
 exact decide_eq_decide.2 ⟨fun h => HM.out.2 ⟨h.1.1, h.1.2, h.2⟩, fun h => ⟨⟨(HM.out.1 h).1, (HM.out.1 h).2.1⟩, (HM.out.1 h).2.2⟩⟩

set_option maxRecDepth 100000 in
set_option maxHeartbeats 2000000 in
theorem ownS_any (v : Value) (s : St) (w : World) (hs : StV w v s) (hlim : s.L.length <= 1000000) :
   Calls Tryz.prog 88 #[v] w fun e w' => ∃ vl', e = .returned (.agg #[.int .i64 s.kind, vl', .bool s.shut, .int .i64 s.eng]) ∧ OwnI w' w.heap.size vl' s.L ∧ Below w.heap.size w w' := by
 obtain ⟨vl, rfl, hr, -, -⟩ := hs
 obtain ⟨kind, l, shut, g⟩ := s
 simp only at hr hlim ⊢
 have HC : Hid (∀ W, Below w.heap.size w W -> Calls Tryz.prog 43 #[vl] W fun e w' => ∃ v', e = .returned v' ∧ OwnI w' W.heap.size v' l ∧ Below W.heap.size W w') := fun W h => cloneI_any vl l W (hr.below h (Nat.le_refl _)) hlim
 have HBA : Hid (∀ x y, Below w.heap.size w ((w.alloc x).alloc y)) := fun x y => ((Below.refl _ _).alloc (Nat.le_refl _) x).alloc (by simp) y
 clear hr hlim
 go_enter Tryz.func88, Tryz.ntmps88
 go_wp2_with fail
 refine (HC.out _ (HBA.out _ _)).mono ?_
 rintro e W1 ⟨v1, rfl, ho, hb1⟩
 have hbx : Box2 W1 w.heap.size _ _ := (Box2.made w _ _).below hb1 (by simp)
 have q0 := (hbx.s 0).1
 have q1 := (hbx.s 1).1
 have q2 := (hbx.s 2).1
 have q3 := (hbx.s 3).1
 have f1 := (hbx.s 1).2
 have r0 := (hbx.r 0).1
 have r1 := (hbx.r 1).1
 have r2 := (hbx.r 2).1
 have r3 := (hbx.r 3).1
 have s0 := (hbx.r 0).2
 have s1 := (hbx.r 1).2
 have s2 := (hbx.r 2).2
 have s3 := (hbx.r 3).2
 have HB1 := hide' ((HBA.out _ _).trans (hb1.mono (HBA.out _ _).size))
 have ho2 : OwnI W1 (w.heap.size + 1 + 1) v1 l := by
   have e : ∀ x y, ((w.alloc x).alloc y).heap.size = w.heap.size + 1 + 1 := fun x y => by simp
   rwa [e] at ho
 have HO := hide' ho2
 obtain ⟨ao, cap, rfl⟩ := ho2.shape
 clear hb1 hbx ho ho2
 go_wp2
 refine bodyPost_ret (v := .agg #[.int .i64 kind, .slice ao l.length cap, .bool shut, .int .i64 g]) (by simp [results, Tryz.results88, go_sem, r0, r1, r2, r3]) rfl ?_
 exact ⟨_, rfl, (HO.out.five w.heap.size (w.heap.size + 1) (by omega) (by omega) _ _ _ _ _).mono (by omega), belowFive HB1.out w.heap.size (w.heap.size + 1) (Nat.le_refl _) (by omega) _ _ _ _ _⟩

open Go.RowKit Go.ChangeShapes

theorem cells_op : Tryz.prog.cellsOf 52 = 3 := by kernel_rfl

section
variable {H : Type} {enc : TypeId × Value -> H} {w : World} {base fuel : Nat} {held : Bool}

theorem open_op_cells {cs : List Value} {x : DataW H × List MemPlace} (h : DataW.trod enc Tryz.prog w base (fun _ => true) held fuel 52 cs = some x) :
   ∃ (o : Opn), cs = [.int .i64 o.code, .int .i64 o.a, .int .i64 o.b] ∧ OpOk o := by
 obtain ⟨xs, n, _, _, hl, hxl, hf⟩ := DataW.trod_struct Tryz.underlying52 h
 rw [cells_op] at hl
 match xs, hxl, cs, hl with
 | [y0, y1, y2], _, [c0, c1, c2], _ =>
   have g0 := hf 0 _ rfl
   have g1 := hf 1 _ rfl
   have g2 := hf 2 _ rfl
   simp [cells_int] at g0 g1 g2
   obtain ⟨k, hk, _, wk⟩ := DataW.trod_int Tryz.underlying3 g0
   obtain ⟨a, ha, _, wa⟩ := DataW.trod_int Tryz.underlying3 g1
   obtain ⟨b, hb, _, wb⟩ := DataW.trod_int Tryz.underlying3 g2
   simp only [List.cons.injEq, and_true] at hk ha hb
   subst hk ha hb
   exact ⟨⟨k, a, b⟩, rfl, i64_of_wf wk, i64_of_wf wa, i64_of_wf wb⟩

end

theorem may_i64 {s : St} (h : MayS s) : ∀ x ∈ s.L, I64 x := by
 have h0 := h.2.2.2.1
 have h6 := h.2.2.2.2.1
 have hn := h.2.2.2.2.2
 by_cases h4 : s.kind = 4
 · rw [h4, numsOk_4] at hn
   exact pairs_i64 (by decide) (by decide) hn.2
 · by_cases h5 : s.kind = 5
   · rw [h5, numsOk_5] at hn
     exact pairs_i64 (by decide) (by decide) hn.2
   · have hb := (inBounds_iff _).1 ((numsOk_list h4 h5).1 hn).2.2
     intro x hx
     have := hb x hx
     exact i64_small (by omega) (by omega)

theorem may_len {s : St} (h : MayS s) : s.L.length <= 128 := by
 have h0 := h.2.2.2.1
 have h6 := h.2.2.2.2.1
 have hn := h.2.2.2.2.2
 by_cases h4 : s.kind = 4
 · rw [h4, numsOk_4] at hn
   exact hn.1
 · by_cases h5 : s.kind = 5
   · rw [h5, numsOk_5] at hn
     exact hn.1
   · have := ((numsOk_list h4 h5).1 hn).1
     omega

theorem stepO_seal {s : St} (h : MayS s) (hs : s.shut = false) (o : Opn) (hc : o.code = 10) : stepO s o = (⟨s.kind, s.L, true, if 0 <= o.a ∧ o.a <= 2 then o.a else s.eng⟩, 0) := by
 unfold stepO
 rw [if_neg (fun e => e h), if_neg (by simp [hs]), if_pos hc]

theorem stepO_open {s : St} (h : MayS s) (hs : s.shut = false) (o : Opn) (hc : o.code ≠ 10) : stepO s o = if s.kind <= 1 then oneS s o else if s.kind <= 3 then listS s o else if s.kind = 4 then storeO s o else ledgerS s o := by
 unfold stepO
 rw [if_neg (fun e => e h), if_neg (by simp [hs]), if_neg hc]

theorem storeO_kind (s : St) (o : Opn) : (storeO s o).1.kind = s.kind ∧ (storeO s o).1.shut = s.shut ∧ (storeO s o).1.eng = s.eng := by
 rw [storeO_state]
 exact store_kind s o

theorem split_r {r : St × Int} {k g : Int} {s : Bool} (h : r.1.kind = k ∧ r.1.shut = s ∧ r.1.eng = g) : r = (⟨k, r.1.L, s, g⟩, r.2) := by
 obtain ⟨⟨k1, l1, s1, g1⟩, n1⟩ := r
 obtain ⟨h1, h2, h3⟩ := h
 simp only at h1 h2 h3
 rw [h1, h2, h3]

theorem act_any (s : St) (v : Value) (o : Opn) (B : Nat) (w : World) (ho : OwnI w B v s.L) (hB : B <= w.heap.size) (hm : MayS s) :
   Calls Tryz.prog 90 #[.agg #[.int .i64 s.kind, v, .bool s.shut, .int .i64 s.eng], opV o] w fun e w' => Did B w v (stepO s o) e w' := by
 obtain ⟨kind, l, shut, g⟩ := s
 cases shut with
 | true =>
   rw [stepO_shut hm rfl]
   exact actShut_any kind g l v o B w ho
 | false =>
   have h0 : 0 <= kind := hm.2.2.2.1
   have h6 : kind < 6 := hm.2.2.2.2.1
   have hn := hm.2.2.2.2.2
   obtain ⟨code, a, b⟩ := o
   by_cases hc : code = 10
   · rw [stepO_seal hm rfl _ hc]
     subst hc
     exact actSeal_any kind g a b l v B w ho
   · rw [stepO_open hm rfl _ hc]
     by_cases k1 : kind <= 1
     · rw [if_pos k1]
       obtain ⟨h1, h2, h3⟩ := nums1 hm k1
       exact actOne_any kind g (by omega) l v ⟨code, a, b⟩ hc B w ho h1 h2 h3
     · rw [if_neg k1]
       by_cases k3 : kind <= 3
       · rw [if_pos k3, split_r (list_kind ⟨kind, l, false, g⟩ ⟨code, a, b⟩)]
         exact actLine_any kind g (by omega) l _ _ v code a b hc B w ho (fun W h1 h2 => line_any kind (by omega) v l ⟨code, a, b⟩ false g B W h1 h2 (may_i64 hm) (nums2 hm k3)) hB
       · rw [if_neg k3]
         by_cases k4 : kind = 4
         · rw [if_pos k4, split_r (storeO_kind ⟨kind, l, false, g⟩ ⟨code, a, b⟩)]
           subst k4
           have hn' := (numsOk_4 l).1 hn
           exact actStore_any 4 g rfl l _ _ v code a b hc B w ho (fun W h1 h2 => storeO_any v l ⟨code, a, b⟩ false g B W h1 h2 hn'.2 hn'.1) hB
         · rw [if_neg k4, split_r (ledger_kind ⟨kind, l, false, g⟩ ⟨code, a, b⟩)]
           have k5 : kind = 5 := by omega
           subst k5
           have hn' := (numsOk_5 l).1 hn
           exact actLedger_any 5 g rfl l _ _ v code a b hc B w ho (fun W h1 h2 => ledgerO_any v l ⟨code, a, b⟩ false g B W h1 h2 hn'.2 hn'.1) hB

set_option maxRecDepth 100000 in
set_option maxHeartbeats 2000000 in
theorem step_any (v : Value) (s : St) (o : Opn) (w : World) (hs : StV w v s) (hlim : s.L.length <= 1000000) :
   Calls Tryz.prog 46 #[v, opV o] w fun e w' => Stepped w (lval v) s.L (stepO s o) e w' := by
 obtain ⟨vl, rfl, hr, hki, hei⟩ := hs
 rw [lval_agg]
 obtain ⟨kind, l, shut, g⟩ := s
 simp only at hr hki hei hlim ⊢
 have HI := hide' hr.i64
 have HOWN : Hid (∀ W, Below w.heap.size w W -> Calls Tryz.prog 88 #[.agg #[.int .i64 kind, vl, .bool shut, .int .i64 g]] W fun e w' => ∃ vl', e = .returned (.agg #[.int .i64 kind, vl', .bool shut, .int .i64 g]) ∧ OwnI w' W.heap.size vl' l ∧ Below W.heap.size W w') := fun W h => ownS_any _ ⟨kind, l, shut, g⟩ W ⟨vl, rfl, hr.below h (Nat.le_refl _), hki, hei⟩ hlim
 have HMAY : Hid (∀ v1 W, RdI W v1 l -> Calls Tryz.prog 89 #[.agg #[.int .i64 kind, v1, .bool shut, .int .i64 g]] W fun e w' => e = .returned (.bool (decide (MayS ⟨kind, l, shut, g⟩))) ∧ Below W.heap.size W w') := fun v1 W h => may_any _ ⟨kind, l, shut, g⟩ W ⟨v1, rfl, h, hki, hei⟩
 have HB3 : Hid (∀ x y z, Below w.heap.size w (((w.alloc x).alloc y).alloc z)) := fun x y z => (three_boxes w x y z).1
 have HZ3 : Hid (∀ x y z, (((w.alloc x).alloc y).alloc z).heap.size = w.heap.size + 1 + 1 + 1) := fun x y z => size3 w x y z
 have HKI := hide' hki
 have HEI := hide' hei
 obtain ⟨code, a, b⟩ := o
 clear hr hki hei hlim
 show Calls Tryz.prog _ #[_, .agg #[.int .i64 code, .int .i64 a, .int .i64 b]] w _
 by_cases hm : MayS ⟨kind, l, shut, g⟩
 · have HMT := hide' (decide_eq_true hm)
   have HACT : Hid (∀ v1 B W, OwnI W B v1 l -> B <= W.heap.size -> Calls Tryz.prog 90 #[.agg #[.int .i64 kind, v1, .bool shut, .int .i64 g], .agg #[.int .i64 code, .int .i64 a, .int .i64 b]] W fun e w' => Did B W v1 (stepO ⟨kind, l, shut, g⟩ ⟨code, a, b⟩) e w') := fun v1 B W h1 h2 => act_any ⟨kind, l, shut, g⟩ v1 ⟨code, a, b⟩ B W h1 h2 hm
   have hm' := stepO_may hm ⟨code, a, b⟩
   have HI' := hide' (may_i64 hm')
   have HKI' : Hid (I64 (stepO ⟨kind, l, shut, g⟩ ⟨code, a, b⟩).1.kind) := i64_small (by have := hm'.2.2.2.1; omega) (by have := hm'.2.2.2.2.1; omega)
   have HEI' : Hid (I64 (stepO ⟨kind, l, shut, g⟩ ⟨code, a, b⟩).1.eng) := i64_small (by have := hm'.1; omega) (by have := hm'.2.1; omega)
   obtain ⟨⟨⟨k', L', s', g'⟩, n'⟩, hr'⟩ : ∃ r, r = stepO ⟨kind, l, shut, g⟩ ⟨code, a, b⟩ := ⟨_, rfl⟩
   rw [<- hr'] at HACT HI' HKI' HEI' ⊢
   clear hm hm' hr'
   go_enter Tryz.func46, Tryz.ntmps46
   go_wp2_with fail
   refine (HOWN.out _ (HB3.out _ _ _)).mono ?_
   rintro e W1 ⟨v1, rfl, ho1, hb1⟩
   rw [HZ3.out] at ho1
   have HX1 := hide' ((Boxes.made w _ _ _).below hb1 (by simp))
   have HB1 := hide' ((HB3.out _ _ _).trans (hb1.mono (HB3.out _ _ _).size))
   have HO1 := hide' ho1
   have hs1 := hb1.size
   rw [HZ3.out] at hs1
   obtain ⟨ao, cap, rfl⟩ := ho1.shape
   clear hb1 ho1
   go_wp2_with fail
   refine (HMAY.out _ _ ((HO1.out.alloc _).rd HI.out)).mono ?_
   rintro e W2 ⟨rfl, hb2⟩
   rw [HMT.out]
   have HB2 := hide' ((HB1.out.alloc HB1.out.size _).trans (hb2.mono (by have := HB1.out.size; simp; omega)))
   have HO2 := hide' ((HO1.out.alloc _).below hb2 (Nat.le_refl _))
   have hs2 := hb2.size
   have hx := (HX1.out.below ((Below.refl W1.heap.size W1).alloc (Nat.le_refl _) _) (by omega)).below hb2 (by simp; omega)
   have hbx := (hb2.block W1.heap.size (by simp)).trans (heap_alloc_new W1 _)
   have HX2 := hide' hx
   obtain ⟨p0, -⟩ := hx.o 0
   obtain ⟨p1, -⟩ := hx.o 1
   obtain ⟨p2, -⟩ := hx.o 2
   have q0 := cell_of_row W2 W1.heap.size 0 _ _ _ hbx
   have q1 := cell_of_row W2 W1.heap.size 1 _ _ _ hbx
   have q2 := cell_of_row W2 W1.heap.size 2 _ _ _ hbx
   have q3 := cell_of_row W2 W1.heap.size 3 _ _ _ hbx
   have hB2 : w.heap.size + 1 + 1 + 1 <= W2.heap.size := by simp at hs2; omega
   clear hb2 hx hbx HX1
   go_wp2_with fail
   refine (HACT.out _ _ _ HO2.out hB2).mono ?_
   rintro e W3 ⟨v3, rfl, ho3, hm3⟩
   have hb3 := hm3.below HO2.out hB2
   have hx := HX2.out.below hb3 (Nat.le_refl _)
   obtain ⟨r0, t0⟩ := hx.r 0
   obtain ⟨r1, t1⟩ := hx.r 1
   obtain ⟨r2, t2⟩ := hx.r 2
   obtain ⟨r3, t3⟩ := hx.r 3
   have HB3' := hide' (HB2.out.trans (hb3.mono (by omega)))
   have HO3 := hide' ho3
   obtain ⟨ao3, cap3, rfl⟩ := ho3.shape
   clear hb3 hm3 hx ho3
   go_wp2
   refine bodyPost_ret (v := .tuple #[.agg #[.int .i64 k', .slice ao3 L'.length cap3, .bool s', .int .i64 g'], .int .i64 n']) (by simp [results, Tryz.results46, go_sem, r0, r1, r2, r3]) rfl ?_
   refine Stepped.fresh ((HO3.out.four (w.heap.size + 1 + 1) (by omega) _ _ _ _).rd HI'.out) HKI'.out HEI'.out n' (fun b hb => ?_) (belowFour HB3'.out (w.heap.size + 1 + 1) (by omega) _ _ _ _)
   have := HO3.out.fresh b hb
   omega
 · have HMT := hide' (decide_eq_false hm)
   have HR := hide' (stepO_not hm ⟨code, a, b⟩)
   rw [HR.out]
   clear hm
   go_enter Tryz.func46, Tryz.ntmps46
   go_wp2_with fail
   refine (HOWN.out _ (HB3.out _ _ _)).mono ?_
   rintro e W1 ⟨v1, rfl, ho1, hb1⟩
   rw [HZ3.out] at ho1
   have HX1 := hide' ((Boxes.made w _ _ _).below hb1 (by simp))
   have HB1 := hide' ((HB3.out _ _ _).trans (hb1.mono (HB3.out _ _ _).size))
   have HO1 := hide' ho1
   have hs1 := hb1.size
   rw [HZ3.out] at hs1
   obtain ⟨ao, cap, rfl⟩ := ho1.shape
   clear hb1 ho1
   go_wp2_with fail
   refine (HMAY.out _ _ ((HO1.out.alloc _).rd HI.out)).mono ?_
   rintro e W2 ⟨rfl, hb2⟩
   rw [HMT.out]
   have HB2 := hide' ((HB1.out.alloc HB1.out.size _).trans (hb2.mono (by have := HB1.out.size; simp; omega)))
   have HO2 := hide' ((HO1.out.alloc _).below hb2 (Nat.le_refl _))
   have hx := (HX1.out.below ((Below.refl W1.heap.size W1).alloc (Nat.le_refl _) _) (by omega)).below hb2 (by simp; omega)
   have hbx := (hb2.block W1.heap.size (by simp)).trans (heap_alloc_new W1 _)
   obtain ⟨r0, t0⟩ := hx.r 0
   obtain ⟨r1, t1⟩ := hx.r 1
   obtain ⟨r2, t2⟩ := hx.r 2
   obtain ⟨r3, t3⟩ := hx.r 3
   have q0 := cell_of_row W2 W1.heap.size 0 _ _ _ hbx
   have q1 := cell_of_row W2 W1.heap.size 1 _ _ _ hbx
   have q2 := cell_of_row W2 W1.heap.size 2 _ _ _ hbx
   have q3 := cell_of_row W2 W1.heap.size 3 _ _ _ hbx
   clear hb2 hx hbx HX1
   go_wp2
   refine bodyPost_ret (v := .tuple #[.agg #[.int .i64 kind, .slice ao l.length cap, .bool shut, .int .i64 g], .int .i64 0]) (by simp [results, Tryz.results46, go_sem, r0, r1, r2, r3]) rfl ?_
   refine Stepped.fresh ((HO2.out.four (w.heap.size + 1 + 1) (by omega) _ _ _ _).rd HI.out) HKI.out HEI.out 0 (fun b hb => ?_) (belowFour HB2.out (w.heap.size + 1 + 1) (by omega) _ _ _ _)
   have := HO2.out.fresh b hb
   omega

theorem stepO_resp (s : St) (o : Opn) : I64 (stepO s o).2 := by
 by_cases h : s.kind ≠ 4 ∨ s.shut = true ∨ o.code = 10 ∨ o.code = 5 ∨ o.code = 6 ∨ o.code = 7 ∨ (0 <= o.a ∧ o.a <= 255)
 · rw [stepO_eq s o h]
   exact step_resp s o
 · by_cases hm : MayS s
   · have hk : s.kind = 4 := by
       by_cases hk : s.kind = 4
       · exact hk
       · exact absurd (.inl hk) h
     have hs : s.shut = false := by
       cases hs : s.shut
       · rfl
       · exact absurd (.inr (.inl hs)) h
     have hc : o.code ≠ 10 := fun e => h (.inr (.inr (.inl e)))
     have ha : ¬ (0 <= o.a ∧ o.a <= 255) := fun e => h (.inr (.inr (.inr (.inr (.inr (.inr e))))))
     rw [stepO_open hm hs o hc, if_neg (by omega), if_neg (by omega), if_pos hk]
     unfold storeO
     rw [if_pos (by omega)]
     exact (i64_small (by decide) (by decide) : I64 (-1))
   · rw [stepO_not hm]
     exact (i64_small (by decide) (by decide) : I64 0)

end Go.Proofs.YtpopbandpnaicaaGreatDoor

