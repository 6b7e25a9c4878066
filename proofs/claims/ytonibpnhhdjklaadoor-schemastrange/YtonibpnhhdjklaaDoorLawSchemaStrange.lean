/- Proved: for all versions, records, fields and bytes the law SchemaStrange answers true (and the call leaves all older memory as it was). Its condition: the package-level variable schema.fieldsOf starts as the program's text lays it (the card ties it to that text, by the deep look, over the pruned copy). -/
import Derived.Test.YtonibpnhhdjklaaDoorSchemaAwake
import Derived.Test.YtonibpnhhdjklaaDoorOpenSchema
import Derived.OpenShut
import Derived.ChangeOld
namespace Go.Proofs.YtonibpnhhdjklaaDoor.schemaStrange
open Go.ChangeShapes Go.WideShapes Go.ChangeAt Go.RowKit

set_option maxRecDepth 100000 in
set_option maxHeartbeats 2000000 in
theorem walk (v : Int) (r : Rec) (c : Int) (vm : Value) (M : List UInt8) (w : World) (_hv : (Lit.int .i64 v).wf = true) (_hr : RecOk r) (_hc : (Lit.int .i64 c).wf = true) (hm : Rd w vm M) (ht : TabF w) :
    Calls Tryd.prog 8 #[.int .i64 v, recV r, .int .i64 c, vm] w fun e w' => e = .returned (.bool true) ∧ Below w.heap.size w w' := by
  have HA := hide (fun W (hb : Below w.heap.size w W) => awake6_any W (ht.below hb (Nat.le_refl _)))
  have HM := hide hm
  obtain ⟨am, cm, rfl, hlc, hcm, -⟩ := hm
  have hml : (M.length : Int) ≤ 9223372036854775807 := by unfold maxLen at hcm; omega
  clear hlc hcm
  have HB0 : Hid (∀ X, Below w.heap.size w (w.alloc X)) := fun X => (Below.refl _ _).alloc (Nat.le_refl _) X
  have S1 : Hid (∀ X, (w.alloc X).heap.size = w.heap.size + 1) := fun X => by simp
  have X1 : Hid (∀ cs, Br (w.alloc (.cells cs 25)) w.heap.size cs) := fun cs => heap_alloc_new w _
  have HEN := hide (fun W (hb : Below w.heap.size w W) => encodeR_any v r W (ht.below hb (Nat.le_refl _)))
  unfold EncodedR at HEN
  unfold recV at HEN ⊢
  have hgd := guard_rec
  have HUP := hide (fun W (hb : Below w.heap.size w W) => upgrade_any v r W (ht.below hb (Nat.le_refl _)))
  unfold recV at HUP
  by_cases hok : (1 ≤ v ∧ v ≤ 3) ∧ FitsR r
  case neg =>
    have he : (encErr v r != 0) = true := by
      rw [bne_iff_ne]
      unfold encErr
      by_cases h1 : 1 ≤ v ∧ v ≤ 3
      · rw [if_pos h1, if_neg (fun h => hok ⟨h1, h⟩)]; decide
      · rw [if_neg h1]; decide
    clear hok HUP
    generalize encErr v r = er at *
    generalize encL v r = E at *
    go_enter Tryd.func8, Tryd.ntmps8
    go_wp2_with fail
    refine (HA.out _ (HB0.out _)).mono ?_
    rintro e W1 ⟨rfl, hb1⟩
    have HX1 := hide ((X1.out _).below hb1 (Nat.le_refl _))
    have HB1 := hide ((HB0.out _).trans (hb1.mono (by rw [S1.out]; omega)))
    clear hb1 HA X1
    obtain ⟨q0, -⟩ := HX1.out.cell 0
    obtain ⟨q1, -⟩ := HX1.out.cell 1
    obtain ⟨q2, -⟩ := HX1.out.cell 2
    obtain ⟨q3, -⟩ := HX1.out.cell 3
    obtain ⟨q4, -⟩ := HX1.out.cell 4
    obtain ⟨q5, -⟩ := HX1.out.cell 5
    obtain ⟨q6, -⟩ := HX1.out.cell 6
    go_wp2_with fail
    refine (HEN.out _ HB1.out).mono ?_
    rintro e W2 ⟨v2, rfl, ho2, hb2⟩
    have HO2 := hide ho2
    obtain ⟨a2, c2, rfl, -⟩ := ho2.rd
    have HX2 := hide (HX1.out.below hb2 (Nat.le_refl _))
    have HB2 := hide (HB1.out.trans (hb2.mono HB1.out.size))
    have HS2 := hide HB1.out.size
    have HS12 := hide hb2.size
    have HX1L := hide HX1.out.lt
    clear ho2 hb2 HX1 HEN q0 q1 q2 q3 q4 q5 q6
    go_wp2
    go_ret
    exact ⟨rfl, HB2.out⟩
  have e1 : encErr v r = 0 := by unfold encErr; rw [if_pos hok.1, if_pos hok.2]
  have e2 : encL v r = encR v r := by unfold encL; rw [if_pos hok.1, if_pos hok.2]
  have hlen := encR_length hok.1.1 hok.1.2 hok.2
  rw [e1, e2] at HEN
  by_cases h16 : c < 16
  · clear hok HUP
    generalize encR v r = E at *
    go_enter Tryd.func8, Tryd.ntmps8
    go_wp2_with fail
    refine (HA.out _ (HB0.out _)).mono ?_
    rintro e W1 ⟨rfl, hb1⟩
    have HX1 := hide ((X1.out _).below hb1 (Nat.le_refl _))
    have HB1 := hide ((HB0.out _).trans (hb1.mono (by rw [S1.out]; omega)))
    clear hb1 HA X1
    obtain ⟨q0, -⟩ := HX1.out.cell 0
    obtain ⟨q1, -⟩ := HX1.out.cell 1
    obtain ⟨q2, -⟩ := HX1.out.cell 2
    obtain ⟨q3, -⟩ := HX1.out.cell 3
    obtain ⟨q4, -⟩ := HX1.out.cell 4
    obtain ⟨q5, -⟩ := HX1.out.cell 5
    obtain ⟨q6, -⟩ := HX1.out.cell 6
    go_wp2_with fail
    refine (HEN.out _ HB1.out).mono ?_
    rintro e W2 ⟨v2, rfl, ho2, hb2⟩
    have HO2 := hide ho2
    obtain ⟨a2, c2, rfl, -⟩ := ho2.rd
    have HX2 := hide (HX1.out.below hb2 (Nat.le_refl _))
    have HB2 := hide (HB1.out.trans (hb2.mono HB1.out.size))
    have HS2 := hide HB1.out.size
    have HS12 := hide hb2.size
    have HX1L := hide HX1.out.lt
    clear ho2 hb2 HX1 HEN q0 q1 q2 q3 q4 q5 q6
    go_wp2
    go_ret
    exact ⟨rfl, HB2.out⟩
  by_cases h127 : 127 < c
  · clear hok HUP
    generalize encR v r = E at *
    go_enter Tryd.func8, Tryd.ntmps8
    go_wp2_with fail
    refine (HA.out _ (HB0.out _)).mono ?_
    rintro e W1 ⟨rfl, hb1⟩
    have HX1 := hide ((X1.out _).below hb1 (Nat.le_refl _))
    have HB1 := hide ((HB0.out _).trans (hb1.mono (by rw [S1.out]; omega)))
    clear hb1 HA X1
    obtain ⟨q0, -⟩ := HX1.out.cell 0
    obtain ⟨q1, -⟩ := HX1.out.cell 1
    obtain ⟨q2, -⟩ := HX1.out.cell 2
    obtain ⟨q3, -⟩ := HX1.out.cell 3
    obtain ⟨q4, -⟩ := HX1.out.cell 4
    obtain ⟨q5, -⟩ := HX1.out.cell 5
    obtain ⟨q6, -⟩ := HX1.out.cell 6
    go_wp2_with fail
    refine (HEN.out _ HB1.out).mono ?_
    rintro e W2 ⟨v2, rfl, ho2, hb2⟩
    have HO2 := hide ho2
    obtain ⟨a2, c2, rfl, -⟩ := ho2.rd
    have HX2 := hide (HX1.out.below hb2 (Nat.le_refl _))
    have HB2 := hide (HB1.out.trans (hb2.mono HB1.out.size))
    have HS2 := hide HB1.out.size
    have HS12 := hide hb2.size
    have HX1L := hide HX1.out.lt
    clear ho2 hb2 HX1 HEN q0 q1 q2 q3 q4 q5 q6
    go_wp2
    go_ret
    exact ⟨rfl, HB2.out⟩
  by_cases hM : (M.length : Int) ≤ 100
  case neg =>
    have hM' : 100 < (M.length : Int) := by omega
    clear hok hM HUP
    generalize encR v r = E at *
    go_enter Tryd.func8, Tryd.ntmps8
    go_wp2_with fail
    refine (HA.out _ (HB0.out _)).mono ?_
    rintro e W1 ⟨rfl, hb1⟩
    have HX1 := hide ((X1.out _).below hb1 (Nat.le_refl _))
    have HB1 := hide ((HB0.out _).trans (hb1.mono (by rw [S1.out]; omega)))
    clear hb1 HA X1
    obtain ⟨q0, -⟩ := HX1.out.cell 0
    obtain ⟨q1, -⟩ := HX1.out.cell 1
    obtain ⟨q2, -⟩ := HX1.out.cell 2
    obtain ⟨q3, -⟩ := HX1.out.cell 3
    obtain ⟨q4, -⟩ := HX1.out.cell 4
    obtain ⟨q5, -⟩ := HX1.out.cell 5
    obtain ⟨q6, -⟩ := HX1.out.cell 6
    go_wp2_with fail
    refine (HEN.out _ HB1.out).mono ?_
    rintro e W2 ⟨v2, rfl, ho2, hb2⟩
    have HO2 := hide ho2
    obtain ⟨a2, c2, rfl, -⟩ := ho2.rd
    have HX2 := hide (HX1.out.below hb2 (Nat.le_refl _))
    have HB2 := hide (HB1.out.trans (hb2.mono HB1.out.size))
    have HS2 := hide HB1.out.size
    have HS12 := hide hb2.size
    have HX1L := hide HX1.out.lt
    clear ho2 hb2 HX1 HEN q0 q1 q2 q3 q4 q5 q6
    go_wp2
    go_ret
    exact ⟨rfl, HB2.out⟩
  have hM' : ¬ (100 < (M.length : Int)) := by omega
  have hcw : c % 256 = c := by omega
  have hmw : (M.length : Int) % 256 = (M.length : Int) := by omega
  have HB : Hid (∀ (W : World) (N : Nat), N = W.heap.size → Rd (W.alloc (.cells #[.int .u8 c] 5)) (.slice (some ⟨N, 0, none⟩) 1 1) [c.toNat.toUInt8]) := fun W N hN => Rd.byte W N hN c c.toNat (by omega) (by omega)
  have HL : Hid (∀ (W : World) (N : Nat), N = W.heap.size → Rd (W.alloc (.cells #[.int .u8 (M.length : Int)] 5)) (.slice (some ⟨N, 0, none⟩) 1 1) [M.length.toUInt8]) := fun W N hN => Rd.byte W N hN (M.length : Int) M.length rfl (by omega)
  have hst := decR_strange hok.1.1 hok.1.2 hok.2 c.toNat (by omega) (by omega) M (by omega)
  rw [Lib.uvarint_small (by omega), Lib.uvarint_small (by omega)] at hst
  have eL : encR v r ++ ([c.toNat.toUInt8] ++ ([M.length.toUInt8] ++ M)) = ((encR v r ++ [c.toNat.toUInt8]) ++ [M.length.toUInt8]) ++ M := by simp only [List.append_assoc]
  rw [eL] at hst
  have HDE := hide (fun W v1 (h : Rd W v1 (((encR v r ++ [c.toNat.toUInt8]) ++ [M.length.toUInt8]) ++ M)) (hb : Below w.heap.size w W) => decodeR_any v1 _ W h (by simp only [List.length_append, List.length_cons, List.length_nil]; omega) (ht.below hb (Nat.le_refl _)))
  unfold DecodedR recV at HDE
  rw [hst] at HDE
  rw [if_pos hok.1, if_pos hok.1] at HUP
  have hEl : (encR v r).length ≤ 300 := hlen
  clear hok e1 e2 hlen hM hst eL
  generalize encR v r = E at *
  generalize upgR v r = X at *
  have k1 : ([c.toNat.toUInt8] : List UInt8).length = 1 := rfl
  have k2 : ([M.length.toUInt8] : List UInt8).length = 1 := rfl
  generalize ([c.toNat.toUInt8] : List UInt8) = b1 at *
  generalize ([M.length.toUInt8] : List UInt8) = b2 at *
  have hE1 : (E ++ b1).length ≤ 301 := by rw [List.length_append]; omega
  have hE2 : ((E ++ b1) ++ b2).length ≤ 302 := by rw [List.length_append]; omega
  have K1 := hide k1
  have K2 := hide k2
  clear k1 k2
  generalize hP1 : E ++ b1 = P1 at *
  generalize hP2 : P1 ++ b2 = P2 at *
  have HP1 := hide hP1
  have HP2 := hide hP2
  clear hP1 hP2
  by_cases h3 : v = 3
  · have hq3 : (v == 3) = true := by rw [h3]; rfl
    rw [if_pos h3] at HDE
    have HDE' : Hid (∀ W v1, Rd W v1 (P2 ++ M) → Below w.heap.size w W → Calls Tryd.prog 16 #[v1] W fun e w' => e = .returned (.tuple #[.agg #[.int .i64 0, .int .i64 0, .int .i64 0, .int .i64 0, .int .i64 0, .int .i64 0, .int .i64 0], .int .i64 7]) ∧ Below W.heap.size W w') := HDE.out
    clear HDE h3
    go_enter Tryd.func8, Tryd.ntmps8
    go_wp2_with fail
    refine (HA.out _ (HB0.out _)).mono ?_
    rintro e W1 ⟨rfl, hb1⟩
    have HX1 := hide ((X1.out _).below hb1 (Nat.le_refl _))
    have HB1 := hide ((HB0.out _).trans (hb1.mono (by rw [S1.out]; omega)))
    clear hb1 HA X1
    obtain ⟨q0, -⟩ := HX1.out.cell 0
    obtain ⟨q1, -⟩ := HX1.out.cell 1
    obtain ⟨q2, -⟩ := HX1.out.cell 2
    obtain ⟨q3, -⟩ := HX1.out.cell 3
    obtain ⟨q4, -⟩ := HX1.out.cell 4
    obtain ⟨q5, -⟩ := HX1.out.cell 5
    obtain ⟨q6, -⟩ := HX1.out.cell 6
    go_wp2_with fail
    refine (HEN.out _ HB1.out).mono ?_
    rintro e W2 ⟨v2, rfl, ho2, hb2⟩
    have HO2 := hide ho2
    obtain ⟨a2, c2, rfl, -⟩ := ho2.rd
    have HX2 := hide (HX1.out.below hb2 (Nat.le_refl _))
    have HB2 := hide (HB1.out.trans (hb2.mono HB1.out.size))
    have HS2 := hide HB1.out.size
    have HS12 := hide hb2.size
    have HX1L := hide HX1.out.lt
    clear ho2 hb2 HX1 HEN q0 q1 q2 q3 q4 q5 q6
    have HOA := hide (fun X => HO2.out.below ((Below.refl W2.heap.size W2).alloc (Nat.le_refl _) X) (Nat.le_refl _))
    have SA : Hid (∀ X, W1.heap.size ≤ (W2.alloc X).heap.size) := fun X => by have := HS12.out; simp; omega
    have HBX := hide (fun (X : Obj) => (Below.refl W1.heap.size W2).alloc HS12.out X)
    go_wp2_with (at_builtin; refine wpList_append_rd _ rfl _ _ rfl W1.heap.size _ E rfl (HOA.out _) _ b1 rfl (HB.out _ _ rfl) (by have := K1.out; omega) (SA.out _) ?_)
    intro v3 W3 ho3 hb3
    rw [HP1.out] at ho3
    have hb23 := (HBX.out _).trans hb3
    have HO3 := hide ho3
    obtain ⟨a3, c3, rfl, -⟩ := ho3.rd
    have HB3 := hide hb23
    clear ho3 hb3 hb23 HOA SA HBX
    have HOA := hide (fun X => HO3.out.below ((Below.refl W3.heap.size W3).alloc (Nat.le_refl _) X) (Nat.le_refl _))
    have S3 : Hid (W1.heap.size ≤ W3.heap.size) := hide (Nat.le_trans HS12.out HB3.out.size)
    have SA : Hid (∀ X, W1.heap.size ≤ (W3.alloc X).heap.size) := fun X => by have := S3.out; simp; omega
    have HBX := hide (fun (X : Obj) => HB3.out.alloc S3.out X)
    go_wp2_with (at_builtin; refine wpList_append_rd _ rfl _ _ rfl W1.heap.size _ P1 rfl (HOA.out _) _ b2 rfl (HL.out _ _ rfl) (by have := K2.out; omega) (SA.out _) ?_)
    intro v4 W4 ho4 hb4
    rw [HP2.out] at ho4
    have HO4 := hide ho4
    obtain ⟨a4, c4, rfl, -⟩ := ho4.rd
    have HB4 := hide ((HBX.out _).trans hb4)
    clear ho4 hb4 HOA SA HBX HO3
    have S4 : Hid (W1.heap.size ≤ W4.heap.size) := hide (Nat.le_trans HS12.out HB4.out.size)
    have HBW4 := hide (HB2.out.trans (HB4.out.mono HS2.out))
    have HM4 := hide (HM.out.below HBW4.out (Nat.le_refl _))
    go_wp2_with (at_builtin; refine wpList_append_rd _ rfl _ _ rfl W1.heap.size _ P2 rfl HO4.out _ M rfl HM4.out (by omega) S4.out ?_)
    intro v5 W5 ho5 hb5
    have HO5 := hide ho5.rd
    have HB5 := hide (HB4.out.trans hb5)
    have HBW5 := hide (HB2.out.trans (HB5.out.mono HS2.out))
    have HX5 := hide (show Br W5 w.heap.size _ from (HB5.out.block w.heap.size (Nat.lt_of_lt_of_le HX1L.out (Nat.le_refl _))).trans HX2.out)
    clear ho5 hb5 HO4 HB4 HBW4 HM4 S4 HB3 S3
    go_wp2_with fail
    refine (HDE'.out _ _ HO5.out HBW5.out).mono ?_
    rintro e W6 ⟨rfl, hb6⟩
    have HX6 := hide (HX5.out.below hb6 (Nat.le_refl _))
    have HB6 := hide (HBW5.out.trans (hb6.mono HBW5.out.size))
    have HX6A := hide (fun Z => HX6.out.below ((Below.refl _ _).alloc (Nat.le_refl _) Z) (Nat.le_refl _))
    have HBA : Hid (∀ Z, Below w.heap.size w (W6.alloc Z)) := fun Z => HB6.out.alloc HB6.out.size Z
    have X6 : Hid (∀ cs, Br (W6.alloc (.cells cs 25)) W6.heap.size cs) := fun cs => heap_alloc_new W6 _
    have hN6 := HX6.out.lt
    obtain ⟨q0, -⟩ := HX6.out.cell 0
    obtain ⟨q1, -⟩ := HX6.out.cell 1
    obtain ⟨q2, -⟩ := HX6.out.cell 2
    obtain ⟨q3, -⟩ := HX6.out.cell 3
    obtain ⟨q4, -⟩ := HX6.out.cell 4
    obtain ⟨q5, -⟩ := HX6.out.cell 5
    obtain ⟨q6, -⟩ := HX6.out.cell 6
    clear hb6 HX5 HBW5 HO5 HB5 HX2 HB2 HB1 HS2
    go_wp2_with fail
    refine (HUP.out _ (HBA.out _)).mono ?_
    rintro e W7 ⟨rfl, hb7⟩
    have HY7 := hide ((X6.out _).below hb7 (Nat.le_refl _))
    have HB7 := hide ((HBA.out _).trans (hb7.mono (HBA.out _).size))
    clear hb7 HX6 HX6A HB6 HBA X6 q0 q1 q2 q3 q4 q5 q6
    obtain ⟨t0, -⟩ := HY7.out.cell 0
    obtain ⟨t1, -⟩ := HY7.out.cell 1
    obtain ⟨t2, -⟩ := HY7.out.cell 2
    obtain ⟨t3, -⟩ := HY7.out.cell 3
    obtain ⟨t4, -⟩ := HY7.out.cell 4
    obtain ⟨t5, -⟩ := HY7.out.cell 5
    obtain ⟨t6, -⟩ := HY7.out.cell 6
    have hM7 := HY7.out.lt
    go_wp2
    go_ret
    exact ⟨rfl, HB7.out.alloc HB7.out.size _⟩
  · have hq3 : (v == 3) = false := beq_eq_false_iff_ne.2 h3
    rw [if_neg h3] at HDE
    have heq := fun W => eql_rec W X X
    rw [eqRec_self] at heq
    clear h3
    go_enter Tryd.func8, Tryd.ntmps8
    go_wp2_with fail
    refine (HA.out _ (HB0.out _)).mono ?_
    rintro e W1 ⟨rfl, hb1⟩
    have HX1 := hide ((X1.out _).below hb1 (Nat.le_refl _))
    have HB1 := hide ((HB0.out _).trans (hb1.mono (by rw [S1.out]; omega)))
    clear hb1 HA X1
    obtain ⟨q0, -⟩ := HX1.out.cell 0
    obtain ⟨q1, -⟩ := HX1.out.cell 1
    obtain ⟨q2, -⟩ := HX1.out.cell 2
    obtain ⟨q3, -⟩ := HX1.out.cell 3
    obtain ⟨q4, -⟩ := HX1.out.cell 4
    obtain ⟨q5, -⟩ := HX1.out.cell 5
    obtain ⟨q6, -⟩ := HX1.out.cell 6
    go_wp2_with fail
    refine (HEN.out _ HB1.out).mono ?_
    rintro e W2 ⟨v2, rfl, ho2, hb2⟩
    have HO2 := hide ho2
    obtain ⟨a2, c2, rfl, -⟩ := ho2.rd
    have HX2 := hide (HX1.out.below hb2 (Nat.le_refl _))
    have HB2 := hide (HB1.out.trans (hb2.mono HB1.out.size))
    have HS2 := hide HB1.out.size
    have HS12 := hide hb2.size
    have HX1L := hide HX1.out.lt
    clear ho2 hb2 HX1 HEN q0 q1 q2 q3 q4 q5 q6
    have HOA := hide (fun X => HO2.out.below ((Below.refl W2.heap.size W2).alloc (Nat.le_refl _) X) (Nat.le_refl _))
    have SA : Hid (∀ X, W1.heap.size ≤ (W2.alloc X).heap.size) := fun X => by have := HS12.out; simp; omega
    have HBX := hide (fun (X : Obj) => (Below.refl W1.heap.size W2).alloc HS12.out X)
    go_wp2_with (at_builtin; refine wpList_append_rd _ rfl _ _ rfl W1.heap.size _ E rfl (HOA.out _) _ b1 rfl (HB.out _ _ rfl) (by have := K1.out; omega) (SA.out _) ?_)
    intro v3 W3 ho3 hb3
    rw [HP1.out] at ho3
    have hb23 := (HBX.out _).trans hb3
    have HO3 := hide ho3
    obtain ⟨a3, c3, rfl, -⟩ := ho3.rd
    have HB3 := hide hb23
    clear ho3 hb3 hb23 HOA SA HBX
    have HOA := hide (fun X => HO3.out.below ((Below.refl W3.heap.size W3).alloc (Nat.le_refl _) X) (Nat.le_refl _))
    have S3 : Hid (W1.heap.size ≤ W3.heap.size) := hide (Nat.le_trans HS12.out HB3.out.size)
    have SA : Hid (∀ X, W1.heap.size ≤ (W3.alloc X).heap.size) := fun X => by have := S3.out; simp; omega
    have HBX := hide (fun (X : Obj) => HB3.out.alloc S3.out X)
    go_wp2_with (at_builtin; refine wpList_append_rd _ rfl _ _ rfl W1.heap.size _ P1 rfl (HOA.out _) _ b2 rfl (HL.out _ _ rfl) (by have := K2.out; omega) (SA.out _) ?_)
    intro v4 W4 ho4 hb4
    rw [HP2.out] at ho4
    have HO4 := hide ho4
    obtain ⟨a4, c4, rfl, -⟩ := ho4.rd
    have HB4 := hide ((HBX.out _).trans hb4)
    clear ho4 hb4 HOA SA HBX HO3
    have S4 : Hid (W1.heap.size ≤ W4.heap.size) := hide (Nat.le_trans HS12.out HB4.out.size)
    have HBW4 := hide (HB2.out.trans (HB4.out.mono HS2.out))
    have HM4 := hide (HM.out.below HBW4.out (Nat.le_refl _))
    go_wp2_with (at_builtin; refine wpList_append_rd _ rfl _ _ rfl W1.heap.size _ P2 rfl HO4.out _ M rfl HM4.out (by omega) S4.out ?_)
    intro v5 W5 ho5 hb5
    have HO5 := hide ho5.rd
    have HB5 := hide (HB4.out.trans hb5)
    have HBW5 := hide (HB2.out.trans (HB5.out.mono HS2.out))
    have HX5 := hide (show Br W5 w.heap.size _ from (HB5.out.block w.heap.size (Nat.lt_of_lt_of_le HX1L.out (Nat.le_refl _))).trans HX2.out)
    clear ho5 hb5 HO4 HB4 HBW4 HM4 S4 HB3 S3
    go_wp2_with fail
    refine (HDE.out _ _ HO5.out HBW5.out).mono ?_
    rintro e W6 ⟨rfl, hb6⟩
    have HX6 := hide (HX5.out.below hb6 (Nat.le_refl _))
    have HB6 := hide (HBW5.out.trans (hb6.mono HBW5.out.size))
    have HX6A := hide (fun Z => HX6.out.below ((Below.refl _ _).alloc (Nat.le_refl _) Z) (Nat.le_refl _))
    have HBA : Hid (∀ Z, Below w.heap.size w (W6.alloc Z)) := fun Z => HB6.out.alloc HB6.out.size Z
    have X6 : Hid (∀ cs, Br (W6.alloc (.cells cs 25)) W6.heap.size cs) := fun cs => heap_alloc_new W6 _
    have hN6 := HX6.out.lt
    obtain ⟨q0, -⟩ := HX6.out.cell 0
    obtain ⟨q1, -⟩ := HX6.out.cell 1
    obtain ⟨q2, -⟩ := HX6.out.cell 2
    obtain ⟨q3, -⟩ := HX6.out.cell 3
    obtain ⟨q4, -⟩ := HX6.out.cell 4
    obtain ⟨q5, -⟩ := HX6.out.cell 5
    obtain ⟨q6, -⟩ := HX6.out.cell 6
    clear hb6 HX5 HBW5 HO5 HB5 HX2 HB2 HB1 HS2
    go_wp2_with fail
    refine (HUP.out _ (HBA.out _)).mono ?_
    rintro e W7 ⟨rfl, hb7⟩
    have HY7 := hide ((X6.out _).below hb7 (Nat.le_refl _))
    have HB7 := hide ((HBA.out _).trans (hb7.mono (HBA.out _).size))
    clear hb7 HX6 HX6A HB6 HBA X6 q0 q1 q2 q3 q4 q5 q6
    obtain ⟨t0, -⟩ := HY7.out.cell 0
    obtain ⟨t1, -⟩ := HY7.out.cell 1
    obtain ⟨t2, -⟩ := HY7.out.cell 2
    obtain ⟨t3, -⟩ := HY7.out.cell 3
    obtain ⟨t4, -⟩ := HY7.out.cell 4
    obtain ⟨t5, -⟩ := HY7.out.cell 5
    obtain ⟨t6, -⟩ := HY7.out.cell 6
    have hM7 := HY7.out.lt
    go_wp2
    go_ret
    exact ⟨rfl, HB7.out.alloc HB7.out.size _⟩

theorem own : ownKnob Tryd.prog.godebug = none := by kernel_rfl
theorem laidOut : laidOutB Tryd.prog = true := by kernel_rfl

set_option linter.unusedVariables false in
set_option maxRecDepth 100000 in
theorem lifted (os : Os) (started : os.Started) (H : Type) (enc : TypeId × Value → H) :
    ReturnsInHanded {} Tryd.checked os 8 .any (fun w args => (Rows.schemaStrangeSpec.pre enc Tryd.prog Tryd.f8 Rows.schemaStrangeRow.domain false w args ∧ laidMetH Tryd.prog Rows.schemaStrangeRow.laid w) ∧ sizedMet enc Tryd.prog Tryd.f8 (OpenSpec.ofChange Rows.schemaStrangeSpec) false w args) (Rows.schemaStrangeSpec.post enc Tryd.prog Tryd.f8 false true false false) := by
  refine returnsInHanded_of_change_and (C := Tryd.checked) (X := fun w _ => laidMetH Tryd.prog Rows.schemaStrangeRow.laid w) (fun _ _ _ hh h => h.of_heap hh) own started (by kernel_rfl) Tryd.func8
    (ChangeSpec.witness_shaped (enc := enc) (C := Tryd.checked) (os := os) (X := fun w _ => laidMetH Tryd.prog Rows.schemaStrangeRow.laid w) false (World.doorLaid Tryd.prog 400 os) #[.int .i64 0, .agg #[.int .i64 0, .int .i64 0, .int .i64 0, .int .i64 0, .int .i64 0, .int .i64 0, .int .i64 0], .int .i64 0, .slice none 0 0] 8 rfl (World.shaped_of_RefB (by kernel_rfl) (by kernel_rfl)) (by kernel_rfl) (by kernel_rfl) (by kernel_rfl) (door_met os _)) ?_
  intro W base args ds gs before hval0 hW hcnd _ hL _
  have hval : ∀ (j : Nat) t v, Tryd.f8.params[j]? = some t → args[j]? = some v → Value.okWide Tryd.prog W .any base t v := hval0
  have hW' := hW
  obtain ⟨p, q, hA0, hV, rfl, hfz, hnd⟩ := hW
  have hA : DataW.TrodAll enc Tryd.prog W 0 (fun _ => true) true Tryd.f8.params.toList args.toList ds p := hA0
  rw [Tryd.params8] at hA hval
  obtain ⟨v0, vs0, d0, ds0, p0, q0, hargs, rfl, rfl, h0, r0⟩ := trodAll_cons hA
  obtain ⟨v1, vs1, d1, ds1, p1, q1, rfl, rfl, rfl, h1, r1⟩ := trodAll_cons r0
  obtain ⟨v2, vs2, d2, ds2, p2, q2, rfl, rfl, rfl, h2, r2⟩ := trodAll_cons r1
  obtain ⟨v3, vs3, d3, ds3, p3, q3, rfl, rfl, rfl, h3, r3⟩ := trodAll_cons r2
  obtain ⟨rfl, rfl, rfl⟩ := trodAll_nil r3
  obtain rfl : args = #[v0, v1, v2, v3] := by cases args; simp_all
  obtain ⟨rfl, rfl⟩ := trodVars_none hV
  obtain ⟨a0, rfl, rfl, rfl, w0⟩ := open_int Tryd.underlying3 (hval 0 3 v0 rfl rfl) h0
  have lt1 : ∀ x ∈ p1, x.block < W.heap.size := by obtain ⟨m, hm⟩ := h1; exact DataW.trod_lt m _ _ _ hm
  obtain ⟨s1, e1, w1⟩ := open_rec (hval 1 25 v1 rfl rfl) h1
  subst e1
  have k1 := h1
  obtain ⟨a2, rfl, rfl, rfl, w2⟩ := open_int Tryd.underlying3 (hval 2 3 v2 rfl rfl) h2
  obtain ⟨a3, len3, cap3, rfl⟩ := okWide_slice Tryd.underlying27 (hval 3 27 v3 rfl rfl)
  have k3 := h3
  have lt3 : ∀ x ∈ p3, x.block < W.heap.size := by obtain ⟨m, hm⟩ := k3; exact DataW.trod_lt m _ _ _ hm
  obtain ⟨l3, w3⟩ : ∃ l, Rd W (.slice a3 len3 cap3) l := by
    obtain ⟨fuel, hf⟩ := h3
    rcases open_ints Tryd.underlying27 Tryd.underlying5 (by kernel_rfl) hf with ⟨hcs, _⟩ | ⟨x, l, c, zs, hcs, _, hl, hm, hz, _, hcell, hwz⟩
    · simp [Value.cells] at hcs
      obtain ⟨rfl, rfl, rfl⟩ := hcs
      exact ⟨[], Rd.nil _⟩
    · simp [Value.cells] at hcs
      obtain ⟨rfl, rfl, rfl⟩ := hcs
      exact ⟨_, Rd.ofRow hl hm (by simpa using hz) hcell hwz⟩
  clear hA0 hval0
  refine (walk a0 s1 a2 _ l3 W w0 w1 w2 w3 (tabs hL)).mono fun e W' ⟨he, bel⟩ => ?_
  subst he
  exact ⟨_, rfl, _, _, _, [], _, [], hW', trodAll_mk1 (shut_bool Tryd.underlying4 _), (trodAll_cons_mk (shut_int Tryd.underlying3 w0) (trodAll_cons_mk (Below.trod laidOut (by kernel_rfl) (of_decide_eq_true (by kernel_rfl)) k1 bel lt1) (trodAll_cons_mk (shut_int Tryd.underlying3 w2) (trodAll_cons_mk (Below.trod laidOut (by kernel_rfl) (of_decide_eq_true (by kernel_rfl)) k3 bel lt3) trodAll_mk0)))), rfl, bel.frame _, fun h => by cases h⟩

theorem over : Rows.schemaStrangeRow.holds Tryd.pinned (OpenSpec.ofChange Rows.schemaStrangeSpec) :=
  OpenClaim.holds_of_wide 8 Tryd.f8 rfl rfl rfl rfl rfl rfl rfl ⟨rfl, rfl, rfl, rfl, rfl⟩ rfl rfl rfl rfl rfl (by kernel_rfl) Tryd.func8 (by kernel_rfl)
    (of_decide_eq_true (by kernel_rfl)) (by unfold Func.isWrapper; first | (rw [if_pos (by decide +kernel)]; kernel_rfl) | (rw [if_neg (by decide +kernel)]; exact ⟨rfl, rfl⟩))
    (fun os started H enc _ => lifted os started H enc)

end Go.Proofs.YtonibpnhhdjklaaDoor.schemaStrange
namespace Go.Proofs.YtonibpnhhdjklaaDoor

set_option maxRecDepth 100000 in
theorem schemaStrange_holds : Rows.SchemaStrangeCardSaid :=
  Claim7.holds_tied_plain_at .later [] _ _ _ _ schemaStrange.over (fun _ h => by cases h) (by kernel_rfl) (fun _ h => by cases h) schemaStrange_row_tie rfl ⟨rfl, rfl⟩ (by kernel_rfl) rfl
    (fun f fn hf hfn => by
      obtain rfl : f = 8 := Option.some.inj ((show Tryd.prog.funcNamed "ferryman/ferrymanlaw06.SchemaStrange" = some 8 by kernel_rfl).symm.trans hf) |>.symm
      obtain rfl : fn = Tryd.f8 := (Option.some.inj (Tryd.func8.symm.trans hfn)).symm
      exact ⟨by kernel_rfl, fun j t ht => by
        rw [Tryd.params8] at ht
        have hm : t ∈ [3, 25, 3, 27] := by simpa using Array.mem_of_getElem? ht
        have hall : ([3, 25, 3, 27].all fun u => !Tryd.prog.wantsStandIn u) = true := by kernel_rfl
        exact (show Tryd.prog.wantsStandIn t = false by simpa using List.all_eq_true.1 hall t hm)⟩)
    (by kernel_rfl)

end Go.Proofs.YtonibpnhhdjklaaDoor
