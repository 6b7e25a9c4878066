/- Proved: for all states and operations the law ObjsStays answers true (and the call leaves all older memory as it was). No condition. -/
import Derived.Test.YtclankoffcfkfaaObjsBox
import Derived.OpenShut
import Derived.ChangeOld
namespace Go.Proofs.Ytclankoffcfkfaa.objsStays
open Go.ChangeShapes Go.WideShapes Go.ChangeAt Go.RowKit

/-- What the region of the tests holds on to: the boxes B and T, and the operation's code. -/
def Held (W0 : World) (B T b0 off : Nat) (c0 c1 c2 c3 d0 d1 d2 d3 e0 : Value) (W : World) : Prop :=
  (Below W0.heap.size W0 W ∧ Bx W B #[c0, c1, c2, c3] ∧ Bx W T #[d0, d1, d2, d3]) ∧
  W.cell? ⟨B, 0, none⟩ = some c0 ∧ W.cell? ⟨B, 1, none⟩ = some c1 ∧ W.cell? ⟨B, 2, none⟩ = some c2 ∧ W.cell? ⟨B, 3, none⟩ = some c3 ∧
  W.cell? ⟨T, 0, none⟩ = some d0 ∧ W.cell? ⟨T, 1, none⟩ = some d1 ∧ W.cell? ⟨T, 2, none⟩ = some d2 ∧ W.cell? ⟨T, 3, none⟩ = some d3 ∧
  W.cell? ⟨b0, off, none⟩ = some e0

theorem Held.mk {W0 W : World} {B T b0 off : Nat} {c0 c1 c2 c3 d0 d1 d2 d3 e0 : Value} (hb : Below W0.heap.size W0 W) (hB : Bx W B #[c0, c1, c2, c3]) (hT : Bx W T #[d0, d1, d2, d3]) (he : W.cell? ⟨b0, off, none⟩ = some e0) : Held W0 B T b0 off c0 c1 c2 c3 d0 d1 d2 d3 e0 W :=
  ⟨⟨hb, hB, hT⟩, (hB.cell 0).1, (hB.cell 1).1, (hB.cell 2).1, (hB.cell 3).1, (hT.cell 0).1, (hT.cell 1).1, (hT.cell 2).1, (hT.cell 3).1, he⟩

theorem Held.below {W0 W W' : World} {B T b0 off : Nat} {c0 c1 c2 c3 d0 d1 d2 d3 e0 : Value} (h : Held W0 B T b0 off c0 c1 c2 c3 d0 d1 d2 d3 e0 W) (hb : Below W.heap.size W W') : Held W0 B T b0 off c0 c1 c2 c3 d0 d1 d2 d3 e0 W' := by
  obtain ⟨⟨h1, h2, h3⟩, -, -, -, -, -, -, -, -, he⟩ := h
  exact Held.mk (h1.trans (hb.mono h1.size)) (h2.below hb (Nat.le_refl _)) (h3.below hb (Nat.le_refl _)) ((hb.cell (p := ⟨b0, off, none⟩) (World.block_lt_of_cell? W ⟨b0, off, none⟩ he)).trans he)

theorem next3 {w : World} {B : Nat} {wr : World} {vk : Value} {sk : St} (h : BoxAt w B wr vk sk) {W3 : World} {v2 : Value} {k' g' : Int} {L' : List Int} {s' : Bool} (hr2 : RdI W3 v2 L') (hk : I64 k') (he : I64 g') (hd : (v2 = vk ∧ L' = sk.L) ∨ ∀ b, v2.ownBlock = some b → wr.heap.size ≤ b) (hb : Below wr.heap.size wr W3) :
    BoxAt w B ((((W3.setCell ⟨B, 0, none⟩ (.int .i64 k')).setCell ⟨B, 1, none⟩ v2).setCell ⟨B, 2, none⟩ (.bool s')).setCell ⟨B, 3, none⟩ (.int .i64 g')) v2 ⟨k', L', s', g'⟩ := by
  refine h.on (s2 := ⟨k', L', s', g'⟩) hr2 hk he hd hb (T := W3.heap.size) ((But.refl _ _ _).four _ (.inl rfl) _ _ _ _) ?_ hb.size ?_
  · exact heap_four W3 _ _ _ _ _ _ (h.box.below hb (Nat.le_refl _)) _ _ _ _
  · rcases hr2.block with h0 | ⟨_, b, hb, hlt⟩
    · exact .inl h0
    · exact .inr fun b' hb' => by rw [hb] at hb'; injection hb' with hb'; omega

set_option maxRecDepth 100000 in
set_option maxHeartbeats 16000000 in
theorem walk (v : Value) (s : St) (vo : Value) (ops : List Opn) (w : World) (hs : StV w v s) (ho : RdO w vo ops) :
    Calls Try.prog 6 #[v, vo] w fun e w' => e = .returned (.bool true) ∧ Below w.heap.size w w' := by
  have HA := hide' (fun w => awakeO_any w)
  have HFW := hide' (fun w h => few_any v s w h)
  have HMY := hide' (fun w h => may_any v s w h)
  have HSV := hide' hs
  have HRO := hide' ho
  obtain ⟨vl, rfl, hr, hki, hei⟩ := hs
  have HR := hide' hr
  obtain ⟨ao, cap, rfl, -⟩ := hr
  obtain ⟨oa, ocap, rfl, hoc, hocm, -, -, hoa⟩ := ho
  have hol : (ops.length : Int) ≤ 9223372036854775807 := by unfold maxLen at hocm; omega
  have HOA := hide' hoa
  have H1 : Hid (∀ x, Below w.heap.size w (w.alloc x)) := fun x => (Below.refl _ _).alloc (Nat.le_refl _) x
  have S1 : Hid (∀ x, (w.alloc x).heap.size = w.heap.size + 1) := fun x => by simp
  have X1 : Hid (∀ cs, Bx (w.alloc (.cells cs 24)) w.heap.size cs) := fun cs => heap_alloc_new w _
  have HST := hide' (fun w1 v1 s1 o1 (h : StV w1 v1 s1) hl => step_any v1 s1 o1 w1 h hl)
  have HMA := hide' (fun w1 v1 s1 (h : StV w1 v1 s1) => may_any v1 s1 w1 h)
  have HSM := hide' (fun w1 va a vb b h1 h2 => sameS_any va a vb b w1 h1 h2)
  obtain ⟨kind, l, shut, g⟩ := s
  simp only at *
  have HKI := hide' hki
  have HEI := hide' hei
  clear hki hei hocm hoc hoa
  go_enter Try.func6, Try.ntmps6
  go_wp2_with fail
  refine (HA.out _).mono ?_
  rintro e w1 ⟨rfl, hb1⟩
  have hs1 := hb1.size
  rw [S1.out] at hs1
  have HX1 := hide' ((X1.out _).below hb1 (Nat.le_refl _))
  have HB1 := hide' ((H1.out _).trans (hb1.mono (by rw [S1.out]; omega)))
  clear hb1 HA X1
  obtain ⟨q0, q0'⟩ := HX1.out.cell 0
  obtain ⟨q1, q1'⟩ := HX1.out.cell 1
  obtain ⟨q2, q2'⟩ := HX1.out.cell 2
  obtain ⟨q3, q3'⟩ := HX1.out.cell 3
  go_wp2_with fail
  refine (HFW.out _ (HSV.out.below HB1.out (Nat.le_refl _))).mono ?_
  rintro e w2 ⟨rfl, hb2⟩
  have hs2 := hb2.size
  have HY1 := hide' (HX1.out.below hb2 (Nat.le_refl _))
  have HB2 := hide' (HB1.out.trans (hb2.mono HB1.out.size))
  clear hb2 HX1 q0 q1 q2 q3 q0' q1' q2' q3'
  obtain ⟨q0, q0'⟩ := HY1.out.cell 0
  obtain ⟨q1, q1'⟩ := HY1.out.cell 1
  obtain ⟨q2, q2'⟩ := HY1.out.cell 2
  obtain ⟨q3, q3'⟩ := HY1.out.cell 3
  by_cases hl : (l.length : Int) ≤ 300
  · rw [decide_eq_true hl]
    by_cases ho2 : (ops.length : Int) ≤ 200
    · go_wp2_with fail
      refine (HMY.out _ (HSV.out.below HB2.out (Nat.le_refl _))).mono ?_
      rintro e w3 ⟨rfl, hb3⟩
      have HZ1 := hide' (HY1.out.below hb3 (Nat.le_refl _))
      have HB3 := hide' (HB2.out.trans (hb3.mono HB2.out.size))
      clear hb3 HY1 q0 q1 q2 q3 q0' q1' q2' q3' HMY HFW
      by_cases hm : MayS ⟨kind, l, shut, g⟩
      · rw [decide_eq_true hm]
        have HAT : Hid (MayS ⟨kind, l, shut, g⟩ ∧ BoxAt w w.heap.size w3 (.slice ao l.length cap) ⟨kind, l, shut, g⟩) := ⟨hm, Nat.le_refl _, HZ1.out, HR.out.below HB3.out (Nat.le_refl _), HKI.out, HEI.out, (by
          rcases HR.out.block with h0 | ⟨_, b, hb, hlt⟩
          · exact .inl h0
          · exact .inr fun b' hb' => by rw [hb] at hb'; injection hb' with hb'; omega), HB3.out⟩
        clear hm HB1 HB2 HB3 HZ1
        go_wp2
        go_loopw [7] (fun i wr => ∃ (k : Nat) (vk : Value) (sk : St), i = .int .i64 (k : Int) ∧ k ≤ ops.length ∧ Hid (MayS sk ∧ BoxAt w w.heap.size wr vk sk)) (fun i _ => ops.length - (intOf i).toNat)
        case atStart => exact ⟨0, _, _, rfl, Nat.zero_le _, HAT⟩
        case round =>
          obtain ⟨k, vk, ⟨kk, Lk, shk, gk⟩, rfl, hkl, hat⟩ := hrel
          have hltB := hat.out.2.box.lt
          by_cases hlt : k < ops.length
          · rcases HOA.out with hoa | ⟨b0, off, rfl, hcs⟩
            · subst hoa; simp at hlt
            have hb0 : b0 < w.heap.size := World.block_lt_of_cell? w ⟨b0, off + k * 3, none⟩ (hcs k hlt).1
            have HCS : Hid (∀ W, Below w.heap.size w W → W.cell? ⟨b0, off + k * 3, none⟩ = some (.int .i64 (ops.getD k ⟨0, 0, 0⟩).code) ∧ W.cell? ⟨b0, off + k * 3 + 1, none⟩ = some (.int .i64 (ops.getD k ⟨0, 0, 0⟩).a) ∧ W.cell? ⟨b0, off + k * 3 + 2, none⟩ = some (.int .i64 (ops.getD k ⟨0, 0, 0⟩).b)) := fun W hW => by
              obtain ⟨c0, c1, c2⟩ := hcs k hlt
              refine ⟨?_, ?_, ?_⟩
              · rw [hW.cell (p := ⟨b0, off + k * 3, none⟩) hb0]; exact c0
              · rw [hW.cell (p := ⟨b0, off + k * 3 + 1, none⟩) hb0]; exact c1
              · rw [hW.cell (p := ⟨b0, off + k * 3 + 2, none⟩) hb0]; exact c2
            generalize ops.getD k ⟨0, 0, 0⟩ = op at *
            obtain ⟨oc, oA, oB⟩ := op
            simp only at HCS
            obtain ⟨o0, o1, o2⟩ := HCS.out wr hat.out.2.below
            obtain ⟨ak, ck, rfl, -⟩ := id hat.out.2.rd
            obtain ⟨r, hrr⟩ : ∃ r, stepO ⟨kk, Lk, shk, gk⟩ ⟨oc, oA, oB⟩ = r := ⟨_, rfl⟩
            obtain ⟨⟨k', L', s', g'⟩, n'⟩ := r
            have hkd := stepO_kind ⟨kk, Lk, shk, gk⟩ ⟨oc, oA, oB⟩
            rw [hrr] at hkd
            obtain rfl : k' = kk := hkd
            have HMT : Hid (MayS ⟨k', L', s', g'⟩) := by
              have h := stepO_may hat.out.1 ⟨oc, oA, oB⟩
              rw [hrr] at h
              exact h
            have HSH : Hid (s' = (shk || decide (oc = 10))) := by
              have h := stepO_shut' hat.out.1 ⟨oc, oA, oB⟩
              rw [hrr] at h
              exact h
            have HVD : Hid (shk = true → (⟨k', L', s', g'⟩ : St) = ⟨k', Lk, shk, gk⟩ ∧ n' = -1125899906842624) := fun hs => by
              have h := stepO_shut hat.out.1 hs ⟨oc, oA, oB⟩
              rw [hrr] at h
              injection h with h1 h2
              exact ⟨h1, h2⟩
            have HSTP : Hid (∀ W, Below wr.heap.size wr W → Calls Try.prog 11 #[.agg #[.int .i64 k', .slice ak Lk.length ck, .bool shk, .int .i64 gk], .agg #[.int .i64 oc, .int .i64 oA, .int .i64 oB]] W fun e w' => Stepped W (.slice ak Lk.length ck) Lk (⟨k', L', s', g'⟩, n') e w') := fun W hW => by
              have h := HST.out W (.agg #[.int .i64 k', .slice ak Lk.length ck, .bool shk, .int .i64 gk]) ⟨k', Lk, shk, gk⟩ ⟨oc, oA, oB⟩ (hat.out.2.st.below hW (Nat.le_refl _)) (Nat.le_trans (may_len hat.out.1) (by decide))
              rw [hrr] at h
              exact h
            have HBX := hide' hat.out.2.box
            have HBL := hide' hat.out.2.below
            have HAT2 := hide' hat.out.2
            have HSK := hide' hat.out.2.st
            obtain ⟨q0, q0'⟩ := HBX.out.cell 0
            obtain ⟨q1, q1'⟩ := HBX.out.cell 1
            obtain ⟨q2, q2'⟩ := HBX.out.cell 2
            obtain ⟨q3, q3'⟩ := HBX.out.cell 3
            have hk0 : (0 : Int) ≤ (k : Int) := by omega
            have hkI : (k : Int) < (ops.length : Int) := by omega
            have nb : b0 ≠ wr.heap.size := by omega
            have nb' : wr.heap.size ≠ b0 := by omega
            have nB : w.heap.size ≠ wr.heap.size := by omega
            have nB' : wr.heap.size ≠ w.heap.size := by omega
            clear hcs hat hrr
            go_wp2
            go_region_held (fun w' => w'.cell? ⟨w.heap.size, 0, none⟩ = some (.int .i64 k') ∧ w'.cell? ⟨w.heap.size, 1, none⟩ = some (.slice ak Lk.length ck) ∧ w'.cell? ⟨w.heap.size, 2, none⟩ = some (.bool shk) ∧ w'.cell? ⟨w.heap.size, 3, none⟩ = some (.int .i64 gk) ∧ w'.cell? ⟨b0, off + k * 3, none⟩ = some (.int .i64 oc) ∧ w'.cell? ⟨b0, off + k * 3 + 1, none⟩ = some (.int .i64 oA) ∧ w'.cell? ⟨b0, off + k * 3 + 2, none⟩ = some (.int .i64 oB)) (go_keep)
              (first
                | (go_at_call 11; refine (HSTP.out wr.drew ((Below.refl _ _).drew)).mono ?_; rintro e w2 ⟨v2, rfl, hr2, hk2, he2, hd2, hb2⟩; have hb2' : Below wr.heap.size wr w2 := ((Below.refl _ _).drew).trans hb2; have hs2 : wr.heap.size ≤ w2.heap.size := hb2.size; have l0 : w.heap.size < w2.heap.size := (by omega); have hbx2 := HBX.out.below hb2' (Nat.le_refl _); obtain ⟨t0, t1, t2⟩ := HCS.out w2 (HBL.out.trans (hb2'.mono HBL.out.size)); have HB2 := hide' hb2'; have HD2 := hide' hd2; have HR2 := hide' hr2; have HE2 := hide' he2; have HK2 := hide' hk2; obtain ⟨a2, c2, rfl, -⟩ := id hr2; obtain ⟨u0, u0'⟩ := hbx2.cell 0; obtain ⟨u1, u1'⟩ := hbx2.cell 1; obtain ⟨u2, u2'⟩ := hbx2.cell 2; obtain ⟨u3, u3'⟩ := hbx2.cell 3; clear hb2 hb2' hr2 hd2 hk2 he2 hbx2)
                | (go_at_call 11; refine (HSTP.out _ (((Below.refl _ _).alloc (Nat.le_refl _) _).drew)).mono ?_; rintro e w2 ⟨v2, rfl, hr2, hk2, he2, hd2, hb2⟩; have hb2' : Below wr.heap.size wr w2 := (((Below.refl wr.heap.size wr).alloc (Nat.le_refl _) _).drew).trans (hb2.mono (by simp [World.drew])); have hs2 : wr.heap.size + 1 ≤ w2.heap.size := (by simpa [World.drew] using hb2.size); have hT := (hb2.block wr.heap.size (by simp [World.drew])).trans (heap_alloc_new wr _); have m0 := cell_of_row w2 wr.heap.size 0 _ _ _ hT; have m0' := frozen_of_row w2 wr.heap.size 0 _ _ hT; have m1 := cell_of_row w2 wr.heap.size 1 _ _ _ hT; have m1' := frozen_of_row w2 wr.heap.size 1 _ _ hT; have m2 := cell_of_row w2 wr.heap.size 2 _ _ _ hT; have m2' := frozen_of_row w2 wr.heap.size 2 _ _ hT; have m3 := cell_of_row w2 wr.heap.size 3 _ _ _ hT; have m3' := frozen_of_row w2 wr.heap.size 3 _ _ hT; have HT := hide' hT; have l0 : w.heap.size < w2.heap.size := (by omega); have hbx2 := HBX.out.below hb2' (Nat.le_refl _); obtain ⟨t0, t1, t2⟩ := HCS.out w2 (HBL.out.trans (hb2'.mono HBL.out.size)); have HB2 := hide' hb2'; have HD2 := hide' hd2; have HR2 := hide' hr2; have HE2 := hide' he2; have HK2 := hide' hk2; obtain ⟨a2, c2, rfl, -⟩ := id hr2; obtain ⟨u0, u0'⟩ := hbx2.cell 0; obtain ⟨u1, u1'⟩ := hbx2.cell 1; obtain ⟨u2, u2'⟩ := hbx2.cell 2; obtain ⟨u3, u3'⟩ := hbx2.cell 3; clear hb2 hb2' hr2 hd2 hk2 he2 hbx2 hT))
            all_goals
              clear q0 q1 q2 q3 q0' q1' q2' q3' o0 o1 o2
            all_goals
              first
                | (
          obtain ⟨W1, hWe⟩ : ∃ Wn, Wn = w2.alloc (.cells #[.int .i64 k', .slice a2 L'.length c2, .bool s', .int .i64 g'] 24) := ⟨_, rfl⟩
          obtain ⟨T1, hTe⟩ : ∃ Tn, Tn = w2.heap.size := ⟨_, rfl⟩
          have HW1 : Hid (Below wr.heap.size wr W1) := hide' (by rw [hWe]; exact HB2.out.trans ((Below.refl _ _).alloc hs2 _))
          have HX1 : Hid (Bx W1 T1 #[.int .i64 k', .slice a2 L'.length c2, .bool s', .int .i64 g']) := hide' (by rw [hWe, hTe]; exact heap_alloc_new w2 _)
          have HV1 : Hid (RdI W1 (.slice a2 L'.length c2) L') := hide' (by rw [hWe]; exact HR2.out.below ((Below.refl _ _).alloc (Nat.le_refl _) _) (Nat.le_refl _))
          have HG1 : Hid ((Value.slice a2 L'.length c2 = Value.slice ak Lk.length ck ∧ L' = Lk) ∨ ∀ b, (Value.slice a2 L'.length c2).ownBlock = some b → wr.heap.size ≤ b) := HD2
          have hge : wr.heap.size ≤ T1 := by omega
          rw [← hWe, ← hTe]
          clear hWe hTe HB2 HR2 HD2 u0 u1 u2 u3 u0' u1' u2' u3' t0 t1 t2 l0 hs2)
                | (
          obtain ⟨T1, hTe⟩ : ∃ Tn, Tn = wr.heap.size := ⟨_, rfl⟩
          obtain ⟨W1, hWe⟩ : ∃ Wn, Wn = (((w2.setCell ⟨wr.heap.size, 0, none⟩ (.int .i64 k')).setCell ⟨wr.heap.size, 1, none⟩ (.slice a2 L'.length c2)).setCell ⟨wr.heap.size, 2, none⟩ (.bool s')).setCell ⟨wr.heap.size, 3, none⟩ (.int .i64 g') := ⟨_, rfl⟩
          have HW1 : Hid (Below wr.heap.size wr W1) := hide' (by rw [hWe]; exact belowFour HB2.out _ (Nat.le_refl _) _ _ _ _)
          have HX1 : Hid (Bx W1 T1 #[.int .i64 k', .slice a2 L'.length c2, .bool s', .int .i64 g']) := hide' (by rw [hWe, hTe]; exact heap_four w2 _ _ _ _ _ _ HT.out _ _ _ _)
          have HG1 : Hid ((Value.slice a2 L'.length c2 = Value.slice ak Lk.length ck ∧ L' = Lk) ∨ ∀ b, (Value.slice a2 L'.length c2).ownBlock = some b → wr.heap.size ≤ b) := hide' (by
            rcases HD2.out with hd | hd
            · exact .inl hd
            · exact .inr fun b hb => by have h := hd b hb; simp [World.drew] at h; omega)
          have HV1 : Hid (RdI W1 (.slice a2 L'.length c2) L') := hide' (by
            rw [hWe]
            refine HR2.out.but (R := wr.heap.size) (T := wr.heap.size) ((But.refl _ _ _).four _ (.inl rfl) _ _ _ _) ?_
            rcases HD2.out with ⟨hd, hl⟩ | hd
            · rcases HAT2.out.rd.block with h0 | ⟨_, b, hb, hlt'⟩
              · exact .inl (hl.trans h0)
              · exact .inr fun b' hb' => by rw [hd, hb] at hb'; injection hb' with hb'; omega
            · exact .inr fun b hb => by have h := hd b hb; simp [World.drew] at h; omega)
          have hge : wr.heap.size ≤ T1 := by omega
          rw [← hWe, ← hTe]
          clear hWe hTe HB2 HR2 HD2 HT u0 u1 u2 u3 u0' u1' u2' u3' t0 t1 t2 l0 hs2 m0 m1 m2 m3 m0' m1' m2' m3')
            all_goals
              have hs1' := HW1.out.size
              have HBXW := hide' (HBX.out.below HW1.out (Nat.le_refl _))
              have HBLW := hide' (HBL.out.trans (HW1.out.mono HBL.out.size))
              cases shk with
              | true =>
                have hs' : s' = true := HSH.out
                obtain ⟨heq, hn⟩ := HVD.out rfl
                have HSAME : Hid (SameS ⟨k', Lk, true, gk⟩ ⟨k', L', s', g'⟩) := by rw [heq]; exact sameS_refl _
                subst hs' hn
                clear heq
                have hS' : Held W1 w.heap.size T1 b0 (off + k * 3) (.int .i64 k') (.slice ak Lk.length ck) (.bool true) (.int .i64 gk) (.int .i64 k') (.slice a2 L'.length c2) (.bool true) (.int .i64 g') (.int .i64 oc) W1.drew := (Held.mk (Below.refl _ _) HBXW.out HX1.out (HCS.out W1 HBLW.out).1).below ((Below.refl _ _).drew)
                have C1 : Hid (∀ W, Held W1 w.heap.size T1 b0 (off + k * 3) (.int .i64 k') (.slice ak Lk.length ck) (.bool true) (.int .i64 gk) (.int .i64 k') (.slice a2 L'.length c2) (.bool true) (.int .i64 g') (.int .i64 oc) W → Calls Try.prog 16 #[.agg #[.int .i64 k', .slice a2 L'.length c2, .bool true, .int .i64 g']] W fun e w' => e = .returned (.bool true) ∧ Held W1 w.heap.size T1 b0 (off + k * 3) (.int .i64 k') (.slice ak Lk.length ck) (.bool true) (.int .i64 gk) (.int .i64 k') (.slice a2 L'.length c2) (.bool true) (.int .i64 g') (.int .i64 oc) w') := fun W h => by
                  have hmm := HMA.out W (.agg #[.int .i64 k', .slice a2 L'.length c2, .bool true, .int .i64 g']) ⟨k', L', true, g'⟩ ⟨_, rfl, HV1.out.below h.1.1 (Nat.le_refl _), HK2.out, HE2.out⟩
                  rw [decide_eq_true HMT.out] at hmm
                  exact hmm.mono (fun e w' hh => ⟨hh.1, h.below hh.2⟩)
                have C2 : Hid (∀ W, Held W1 w.heap.size T1 b0 (off + k * 3) (.int .i64 k') (.slice ak Lk.length ck) (.bool true) (.int .i64 gk) (.int .i64 k') (.slice a2 L'.length c2) (.bool true) (.int .i64 g') (.int .i64 oc) W → Calls Try.prog 20 #[.agg #[.int .i64 k', .slice ak Lk.length ck, .bool true, .int .i64 gk], .agg #[.int .i64 k', .slice a2 L'.length c2, .bool true, .int .i64 g']] W fun e w' => e = .returned (.bool true) ∧ Held W1 w.heap.size T1 b0 (off + k * 3) (.int .i64 k') (.slice ak Lk.length ck) (.bool true) (.int .i64 gk) (.int .i64 k') (.slice a2 L'.length c2) (.bool true) (.int .i64 g') (.int .i64 oc) w') := fun W h => by
                  have hmm := HSM.out W (.agg #[.int .i64 k', .slice ak Lk.length ck, .bool true, .int .i64 gk]) ⟨k', Lk, true, gk⟩ (.agg #[.int .i64 k', .slice a2 L'.length c2, .bool true, .int .i64 g']) ⟨k', L', true, g'⟩ ((HSK.out.below HW1.out (Nat.le_refl _)).below h.1.1 (Nat.le_refl _)) ⟨_, rfl, HV1.out.below h.1.1 (Nat.le_refl _), HK2.out, HE2.out⟩
                  rw [decide_eq_true HSAME.out] at hmm
                  exact hmm.mono (fun e w' hh => ⟨hh.1, h.below hh.2⟩)
                clear HSAME
                go_wp2
                refine wp_region_held_drew (S := fun w' => (Below W1.heap.size W1 w' ∧ Bx w' w.heap.size #[.int .i64 k', .slice ak Lk.length ck, .bool true, .int .i64 gk] ∧ Bx w' T1 #[.int .i64 k', .slice a2 L'.length c2, .bool true, .int .i64 g']) ∧ w'.cell? ⟨w.heap.size, 0, none⟩ = some (.int .i64 k') ∧ w'.cell? ⟨w.heap.size, 1, none⟩ = some (.slice ak Lk.length ck) ∧ w'.cell? ⟨w.heap.size, 2, none⟩ = some (.bool true) ∧ w'.cell? ⟨w.heap.size, 3, none⟩ = some (.int .i64 gk) ∧ w'.cell? ⟨T1, 0, none⟩ = some (.int .i64 k') ∧ w'.cell? ⟨T1, 1, none⟩ = some (.slice a2 L'.length c2) ∧ w'.cell? ⟨T1, 2, none⟩ = some (.bool true) ∧ w'.cell? ⟨T1, 3, none⟩ = some (.int .i64 g') ∧ w'.cell? ⟨b0, off + k * 3, none⟩ = some (.int .i64 oc)) (by kernel_rfl) hS' (fun hHeld => ?_)
                refine wpAnyH_take (i := 0) (v := ?_) rfl (by kernel_rfl) (by kernel_rfl) (by kernel_rfl) (fun _ _ _ h => h) (Or.inl ⟨by rfl, ?_⟩) (by assumption) ?_
                rotate_left
                · intro wx hSw
                  go_simp
                  try with_reducible rfl
                simp only [Act.put, List.getElem_toArray, List.getElem_cons_zero, List.setIfInBounds_toArray, List.set_cons_zero, List.set_cons_succ]
                refine wpAnyH_ready (rs := [1]) (by kernel_rfl) (by simp) ?_
                refine AllReadyH.cons rfl (fun K' hK => ?_) AllReadyH.nil
                go_simp
                go_wp2_with ((go_at_call 16; refine (C1.out _ (by assumption)).mono ?_; rintro e w' ⟨rfl, hS'⟩))
                refine hK.out _ _ hS' (fun hHeld => ?_)
                clear hK K'
                refine wpAnyH_take (i := 2) (v := ?_) rfl (by kernel_rfl) (by kernel_rfl) (by kernel_rfl) (fun _ _ _ h => h) (Or.inl ⟨by rfl, ?_⟩) (by assumption) ?_
                rotate_left
                · intro wx hSw
                  go_simp
                  try with_reducible rfl
                simp only [Act.put, List.getElem_toArray, List.getElem_cons_zero, List.getElem_cons_succ, List.setIfInBounds_toArray, List.set_cons_zero, List.set_cons_succ]
                refine wpAnyH_take (i := 3) (v := ?_) rfl (by kernel_rfl) (by kernel_rfl) (by kernel_rfl) (fun _ _ _ h => h) (Or.inl ⟨by rfl, ?_⟩) (by assumption) ?_
                rotate_left
                · intro wx hSw
                  go_simp
                  try with_reducible rfl
                simp only [Act.put, List.getElem_toArray, List.getElem_cons_zero, List.getElem_cons_succ, List.setIfInBounds_toArray, List.set_cons_zero, List.set_cons_succ]
                refine wpAnyH_take (i := 4) (v := ?_) rfl (by kernel_rfl) (by kernel_rfl) (by kernel_rfl) (fun _ _ _ h => h) (Or.inl ⟨by rfl, ?_⟩) (by assumption) ?_
                rotate_left
                · intro wx hSw
                  go_simp
                  try with_reducible rfl
                simp only [Act.put, List.getElem_toArray, List.getElem_cons_zero, List.getElem_cons_succ, List.setIfInBounds_toArray, List.set_cons_zero, List.set_cons_succ]
                refine wpAnyH_take (i := 5) (v := ?_) rfl (by kernel_rfl) (by kernel_rfl) (by kernel_rfl) (fun _ _ _ h => h) (Or.inl ⟨by rfl, ?_⟩) (by assumption) ?_
                rotate_left
                · intro wx hSw
                  go_simp
                  try with_reducible rfl
                simp only [Act.put, List.getElem_toArray, List.getElem_cons_zero, List.getElem_cons_succ, List.setIfInBounds_toArray, List.set_cons_zero, List.set_cons_succ]
                refine wpAnyH_take (i := 6) (v := ?_) rfl (by kernel_rfl) (by kernel_rfl) (by kernel_rfl) (fun _ _ _ h => h) (Or.inl ⟨by rfl, ?_⟩) (by assumption) ?_
                rotate_left
                · intro wx hSw
                  go_simp
                  try with_reducible rfl
                simp only [Act.put, List.getElem_toArray, List.getElem_cons_zero, List.getElem_cons_succ, List.setIfInBounds_toArray, List.set_cons_zero, List.set_cons_succ]
                refine wpAnyH_take (i := 7) (v := ?_) rfl (by kernel_rfl) (by kernel_rfl) (by kernel_rfl) (fun _ _ _ h => h) (Or.inl ⟨by rfl, ?_⟩) (by assumption) ?_
                rotate_left
                · intro wx hSw
                  go_simp
                  try with_reducible rfl
                simp only [Act.put, List.getElem_toArray, List.getElem_cons_zero, List.getElem_cons_succ, List.setIfInBounds_toArray, List.set_cons_zero, List.set_cons_succ]
                refine wpAnyH_take (i := 8) (v := ?_) rfl (by kernel_rfl) (by kernel_rfl) (by kernel_rfl) (fun _ _ _ h => h) (Or.inl ⟨by rfl, ?_⟩) (by assumption) ?_
                rotate_left
                · intro wx hSw
                  go_simp
                  try with_reducible rfl
                simp only [Act.put, List.getElem_toArray, List.getElem_cons_zero, List.getElem_cons_succ, List.setIfInBounds_toArray, List.set_cons_zero, List.set_cons_succ]
                refine wpAnyH_take (i := 9) (v := ?_) rfl (by kernel_rfl) (by kernel_rfl) (by kernel_rfl) (fun _ _ _ h => h) (Or.inl ⟨by rfl, ?_⟩) (by assumption) ?_
                rotate_left
                · intro wx hSw
                  go_simp
                  try with_reducible rfl
                simp only [Act.put, List.getElem_toArray, List.getElem_cons_zero, List.getElem_cons_succ, List.setIfInBounds_toArray, List.set_cons_zero, List.set_cons_succ]
                refine wpAnyH_take (i := 10) (v := ?_) rfl (by kernel_rfl) (by kernel_rfl) (by kernel_rfl) (fun _ _ _ h => h) (Or.inl ⟨by rfl, ?_⟩) (by assumption) ?_
                rotate_left
                · intro wx hSw
                  go_simp
                  try with_reducible rfl
                simp only [Act.put, List.getElem_toArray, List.getElem_cons_zero, List.getElem_cons_succ, List.setIfInBounds_toArray, List.set_cons_zero, List.set_cons_succ]
                refine wpAnyH_take (i := 11) (v := ?_) rfl (by kernel_rfl) (by kernel_rfl) (by kernel_rfl) (fun _ _ _ h => h) (Or.inl ⟨by rfl, ?_⟩) (by assumption) ?_
                rotate_left
                · intro wx hSw
                  go_simp
                  try with_reducible rfl
                simp only [Act.put, List.getElem_toArray, List.getElem_cons_zero, List.getElem_cons_succ, List.setIfInBounds_toArray, List.set_cons_zero, List.set_cons_succ]
                refine wpAnyH_take (i := 12) (v := ?_) rfl (by kernel_rfl) (by kernel_rfl) (by kernel_rfl) (fun _ _ _ h => h) (Or.inl ⟨by rfl, ?_⟩) (by assumption) ?_
                rotate_left
                · intro wx hSw
                  go_simp
                  try with_reducible rfl
                simp only [Act.put, List.getElem_toArray, List.getElem_cons_zero, List.getElem_cons_succ, List.setIfInBounds_toArray, List.set_cons_zero, List.set_cons_succ]
                refine wpAnyH_take (i := 13) (v := ?_) rfl (by kernel_rfl) (by kernel_rfl) (by kernel_rfl) (fun _ _ _ h => h) (Or.inl ⟨by rfl, ?_⟩) (by assumption) ?_
                rotate_left
                · intro wx hSw
                  go_simp
                  try with_reducible rfl
                simp only [Act.put, List.getElem_toArray, List.getElem_cons_zero, List.getElem_cons_succ, List.setIfInBounds_toArray, List.set_cons_zero, List.set_cons_succ]
                refine wpAnyH_take (i := 14) (v := ?_) rfl (by kernel_rfl) (by kernel_rfl) (by kernel_rfl) (fun _ _ _ h => h) (Or.inl ⟨by rfl, ?_⟩) (by assumption) ?_
                rotate_left
                · intro wx hSw
                  go_simp
                  try with_reducible rfl
                simp only [Act.put, List.getElem_toArray, List.getElem_cons_zero, List.getElem_cons_succ, List.setIfInBounds_toArray, List.set_cons_zero, List.set_cons_succ]
                refine wpAnyH_take (i := 15) (v := ?_) rfl (by kernel_rfl) (by kernel_rfl) (by kernel_rfl) (fun _ _ _ h => h) (Or.inl ⟨by rfl, ?_⟩) (by assumption) ?_
                rotate_left
                · intro wx hSw
                  go_simp
                  try with_reducible rfl
                simp only [Act.put, List.getElem_toArray, List.getElem_cons_zero, List.getElem_cons_succ, List.setIfInBounds_toArray, List.set_cons_zero, List.set_cons_succ]
                refine wpAnyH_ready (rs := [16]) (by kernel_rfl) (by simp) ?_
                refine AllReadyH.cons rfl (fun K' hK => ?_) AllReadyH.nil
                go_simp
                go_wp2_with ((go_at_call 20; refine (C2.out _ (by assumption)).mono ?_; rintro e w' ⟨rfl, hS'⟩))
                refine hK.out _ _ hS' (fun hHeld => ?_)
                clear hK K'
                refine wpAnyH_take (i := 17) (v := ?_) rfl (by kernel_rfl) (by kernel_rfl) (by kernel_rfl) (fun _ _ _ h => h) (Or.inl ⟨by rfl, ?_⟩) (by assumption) ?_
                rotate_left
                · intro wx hSw
                  go_simp
                  try with_reducible rfl
                simp only [Act.put, List.getElem_toArray, List.getElem_cons_zero, List.getElem_cons_succ, List.setIfInBounds_toArray, List.set_cons_zero, List.set_cons_succ]
                refine wpAnyH_take (i := 18) (v := ?_) rfl (by kernel_rfl) (by kernel_rfl) (by kernel_rfl) (fun _ _ _ h => h) (Or.inl ⟨by rfl, ?_⟩) (by assumption) ?_
                rotate_left
                · intro wx hSw
                  go_simp
                  try with_reducible rfl
                simp only [Act.put, List.getElem_toArray, List.getElem_cons_zero, List.getElem_cons_succ, List.setIfInBounds_toArray, List.set_cons_zero, List.set_cons_succ]
                refine wpAnyH_take (i := 19) (v := ?_) rfl (by kernel_rfl) (by kernel_rfl) (by kernel_rfl) (fun _ _ _ h => h) (Or.inl ⟨by rfl, ?_⟩) (by assumption) ?_
                rotate_left
                · intro wx hSw
                  go_simp
                  try with_reducible rfl
                simp only [Act.put, List.getElem_toArray, List.getElem_cons_zero, List.getElem_cons_succ, List.setIfInBounds_toArray, List.set_cons_zero, List.set_cons_succ]
                refine wpAnyH_take (i := 20) (v := ?_) rfl (by kernel_rfl) (by kernel_rfl) (by kernel_rfl) (fun _ _ _ h => h) (Or.inl ⟨by rfl, ?_⟩) (by assumption) ?_
                rotate_left
                · intro wx hSw
                  go_simp
                  try with_reducible rfl
                simp only [Act.put, List.getElem_toArray, List.getElem_cons_zero, List.getElem_cons_succ, List.setIfInBounds_toArray, List.set_cons_zero, List.set_cons_succ]
                refine wpAnyH_take (i := 21) (v := ?_) rfl (by kernel_rfl) (by kernel_rfl) (by kernel_rfl) (fun _ _ _ h => h) (Or.inl ⟨by rfl, ?_⟩) (by assumption) ?_
                rotate_left
                · intro wx hSw
                  go_simp
                  try with_reducible rfl
                simp only [Act.put, List.getElem_toArray, List.getElem_cons_zero, List.getElem_cons_succ, List.setIfInBounds_toArray, List.set_cons_zero, List.set_cons_succ]
                refine wpAnyH_take (i := 22) (v := ?_) rfl (by kernel_rfl) (by kernel_rfl) (by kernel_rfl) (fun _ _ _ h => h) (Or.inl ⟨by rfl, ?_⟩) (by assumption) ?_
                rotate_left
                · intro wx hSw
                  go_simp
                  try with_reducible rfl
                simp only [Act.put, List.getElem_toArray, List.getElem_cons_zero, List.getElem_cons_succ, List.setIfInBounds_toArray, List.set_cons_zero, List.set_cons_succ]
                refine wpAnyH_take (i := 23) (v := ?_) rfl (by kernel_rfl) (by kernel_rfl) (by kernel_rfl) (fun _ _ _ h => h) (Or.inl ⟨by rfl, ?_⟩) (by assumption) ?_
                rotate_left
                · intro wx hSw
                  go_simp
                  try with_reducible rfl
                simp only [Act.put, List.getElem_toArray, List.getElem_cons_zero, List.getElem_cons_succ, List.setIfInBounds_toArray, List.set_cons_zero, List.set_cons_succ]
                refine wpAnyH_take (i := 24) (v := ?_) rfl (by kernel_rfl) (by kernel_rfl) (by kernel_rfl) (fun _ _ _ h => h) (Or.inl ⟨by rfl, ?_⟩) (by assumption) ?_
                rotate_left
                · intro wx hSw
                  go_simp
                  try with_reducible rfl
                simp only [Act.put, List.getElem_toArray, List.getElem_cons_zero, List.getElem_cons_succ, List.setIfInBounds_toArray, List.set_cons_zero, List.set_cons_succ]
                refine wpAnyH_take (i := 25) (v := ?_) rfl (by kernel_rfl) (by kernel_rfl) (by kernel_rfl) (fun _ _ _ h => h) (Or.inl ⟨by rfl, ?_⟩) (by assumption) ?_
                rotate_left
                · intro wx hSw
                  go_simp
                  try with_reducible rfl
                simp only [Act.put, List.getElem_toArray, List.getElem_cons_zero, List.getElem_cons_succ, List.setIfInBounds_toArray, List.set_cons_zero, List.set_cons_succ]
                refine wpAnyH_take (i := 26) (v := ?_) rfl (by kernel_rfl) (by kernel_rfl) (by kernel_rfl) (fun _ _ _ h => h) (Or.inl ⟨by rfl, ?_⟩) (by assumption) ?_
                rotate_left
                · intro wx hSw
                  go_simp
                  try with_reducible rfl
                simp only [Act.put, List.getElem_toArray, List.getElem_cons_zero, List.getElem_cons_succ, List.setIfInBounds_toArray, List.set_cons_zero, List.set_cons_succ]
                refine wpAnyH_take (i := 27) (v := ?_) rfl (by kernel_rfl) (by kernel_rfl) (by kernel_rfl) (fun _ _ _ h => h) (Or.inl ⟨by rfl, ?_⟩) (by assumption) ?_
                rotate_left
                · intro wx hSw
                  go_simp
                  try with_reducible rfl
                simp only [Act.put, List.getElem_toArray, List.getElem_cons_zero, List.getElem_cons_succ, List.setIfInBounds_toArray, List.set_cons_zero, List.set_cons_succ]
                refine wpAnyH_take (i := 28) (v := ?_) rfl (by kernel_rfl) (by kernel_rfl) (by kernel_rfl) (fun _ _ _ h => h) (Or.inl ⟨by rfl, ?_⟩) (by assumption) ?_
                rotate_left
                · intro wx hSw
                  go_simp
                  try with_reducible rfl
                simp only [Act.put, List.getElem_toArray, List.getElem_cons_zero, List.getElem_cons_succ, List.setIfInBounds_toArray, List.set_cons_zero, List.set_cons_succ]
                refine wpAnyH_take (i := 29) (v := ?_) rfl (by kernel_rfl) (by kernel_rfl) (by kernel_rfl) (fun _ _ _ h => h) (Or.inl ⟨by rfl, ?_⟩) (by assumption) ?_
                rotate_left
                · intro wx hSw
                  go_simp
                  try with_reducible rfl
                simp only [Act.put, List.getElem_toArray, List.getElem_cons_zero, List.getElem_cons_succ, List.setIfInBounds_toArray, List.set_cons_zero, List.set_cons_succ]
                refine wpAnyH_take (i := 30) (v := undef) rfl (by kernel_rfl) (by kernel_rfl) (by kernel_rfl) (fun _ _ _ h => h) (Or.inr ⟨by rfl, rfl⟩) (by assumption) ?_
                simp only [Act.put, List.getElem_toArray, List.getElem_cons_zero, List.getElem_cons_succ, List.setIfInBounds_toArray, List.set_cons_zero, List.set_cons_succ]
                refine wpAnyH_take (i := 31) (v := undef) rfl (by kernel_rfl) (by kernel_rfl) (by kernel_rfl) (fun _ _ _ h => h) (Or.inr ⟨by rfl, rfl⟩) (by assumption) ?_
                simp only [Act.put, List.getElem_toArray, List.getElem_cons_zero, List.getElem_cons_succ, List.setIfInBounds_toArray, List.set_cons_zero, List.set_cons_succ]
                refine wpAnyH_take (i := 32) (v := undef) rfl (by kernel_rfl) (by kernel_rfl) (by kernel_rfl) (fun _ _ _ h => h) (Or.inr ⟨by rfl, rfl⟩) (by assumption) ?_
                simp only [Act.put, List.getElem_toArray, List.getElem_cons_zero, List.getElem_cons_succ, List.setIfInBounds_toArray, List.set_cons_zero, List.set_cons_succ]
                refine wpAnyH_take (i := 33) (v := undef) rfl (by kernel_rfl) (by kernel_rfl) (by kernel_rfl) (fun _ _ _ h => h) (Or.inr ⟨by rfl, rfl⟩) (by assumption) ?_
                simp only [Act.put, List.getElem_toArray, List.getElem_cons_zero, List.getElem_cons_succ, List.setIfInBounds_toArray, List.set_cons_zero, List.set_cons_succ]
                refine wpAnyH_take (i := 34) (v := undef) rfl (by kernel_rfl) (by kernel_rfl) (by kernel_rfl) (fun _ _ _ h => h) (Or.inr ⟨by rfl, rfl⟩) (by assumption) ?_
                simp only [Act.put, List.getElem_toArray, List.getElem_cons_zero, List.getElem_cons_succ, List.setIfInBounds_toArray, List.set_cons_zero, List.set_cons_succ]
                refine wpAnyH_take (i := 35) (v := undef) rfl (by kernel_rfl) (by kernel_rfl) (by kernel_rfl) (fun _ _ _ h => h) (Or.inr ⟨by rfl, rfl⟩) (by assumption) ?_
                simp only [Act.put, List.getElem_toArray, List.getElem_cons_zero, List.getElem_cons_succ, List.setIfInBounds_toArray, List.set_cons_zero, List.set_cons_succ]
                refine wpAnyH_take (i := 36) (v := ?_) rfl (by kernel_rfl) (by kernel_rfl) (by kernel_rfl) (fun _ _ _ h => h) (Or.inl ⟨by rfl, ?_⟩) (by assumption) ?_
                rotate_left
                · intro wx hSw
                  go_simp
                  try with_reducible rfl
                simp only [Act.put, List.getElem_toArray, List.getElem_cons_zero, List.getElem_cons_succ, List.setIfInBounds_toArray, List.set_cons_zero, List.set_cons_succ]
                refine wpAnyH_take (i := 37) (v := ?_) rfl (by kernel_rfl) (by kernel_rfl) (by kernel_rfl) (fun _ _ _ h => h) (Or.inl ⟨by rfl, ?_⟩) (by assumption) ?_
                rotate_left
                · intro wx hSw
                  go_simp
                  try with_reducible rfl
                simp only [Act.put, List.getElem_toArray, List.getElem_cons_zero, List.getElem_cons_succ, List.setIfInBounds_toArray, List.set_cons_zero, List.set_cons_succ]
                refine wpAnyH_take (i := 38) (v := ?_) rfl (by kernel_rfl) (by kernel_rfl) (by kernel_rfl) (fun _ _ _ h => h) (Or.inl ⟨by rfl, ?_⟩) (by assumption) ?_
                rotate_left
                · intro wx hSw
                  go_simp
                  try with_reducible rfl
                simp only [Act.put, List.getElem_toArray, List.getElem_cons_zero, List.getElem_cons_succ, List.setIfInBounds_toArray, List.set_cons_zero, List.set_cons_succ]
                refine wpAnyH_done (by kernel_rfl) ?_ _
                all_goals
                  obtain ⟨⟨hbW, hxB, hxT⟩, -⟩ := id hS'
                  obtain ⟨q0, q0'⟩ := hxB.cell 0
                  obtain ⟨q1, q1'⟩ := hxB.cell 1
                  obtain ⟨q2, q2'⟩ := hxB.cell 2
                  obtain ⟨q3, q3'⟩ := hxB.cell 3
                  obtain ⟨t0, t0'⟩ := hxT.cell 0
                  obtain ⟨t1, t1'⟩ := hxT.cell 1
                  obtain ⟨t2, t2'⟩ := hxT.cell 2
                  obtain ⟨t3, t3'⟩ := hxT.cell 3
                  have HBF := hide' (HW1.out.trans (hbW.mono hs1'))
                  have HRF := hide' (HV1.out.below hbW (Nat.le_refl _))
                  clear hbW hxB hxT hS'
                  go_wp2
                  go_roundw
                  case rel => exact ⟨k + 1, _, _, by go_num, by omega, HMT.out, next3 HAT2.out HRF.out HK2.out HE2.out HG1.out HBF.out⟩
                  case measure => simp [intOf]; omega
              | false =>
                by_cases h10 : oc = 10
                · have hs' : s' = true := by have h := HSH.out; simpa [h10] using h
                  subst hs'
                  have e10 : (oc == 10) = true := beq_iff_eq.2 h10
                  clear h10
                  have hS' : Held W1 w.heap.size T1 b0 (off + k * 3) (.int .i64 k') (.slice ak Lk.length ck) (.bool false) (.int .i64 gk) (.int .i64 k') (.slice a2 L'.length c2) (.bool true) (.int .i64 g') (.int .i64 oc) W1.drew := (Held.mk (Below.refl _ _) HBXW.out HX1.out (HCS.out W1 HBLW.out).1).below ((Below.refl _ _).drew)
                  have C1 : Hid (∀ W, Held W1 w.heap.size T1 b0 (off + k * 3) (.int .i64 k') (.slice ak Lk.length ck) (.bool false) (.int .i64 gk) (.int .i64 k') (.slice a2 L'.length c2) (.bool true) (.int .i64 g') (.int .i64 oc) W → Calls Try.prog 16 #[.agg #[.int .i64 k', .slice a2 L'.length c2, .bool true, .int .i64 g']] W fun e w' => e = .returned (.bool true) ∧ Held W1 w.heap.size T1 b0 (off + k * 3) (.int .i64 k') (.slice ak Lk.length ck) (.bool false) (.int .i64 gk) (.int .i64 k') (.slice a2 L'.length c2) (.bool true) (.int .i64 g') (.int .i64 oc) w') := fun W h => by
                    have hmm := HMA.out W (.agg #[.int .i64 k', .slice a2 L'.length c2, .bool true, .int .i64 g']) ⟨k', L', true, g'⟩ ⟨_, rfl, HV1.out.below h.1.1 (Nat.le_refl _), HK2.out, HE2.out⟩
                    rw [decide_eq_true HMT.out] at hmm
                    exact hmm.mono (fun e w' hh => ⟨hh.1, h.below hh.2⟩)
                  go_wp2
                  refine wp_region_held_drew (S := fun w' => (Below W1.heap.size W1 w' ∧ Bx w' w.heap.size #[.int .i64 k', .slice ak Lk.length ck, .bool false, .int .i64 gk] ∧ Bx w' T1 #[.int .i64 k', .slice a2 L'.length c2, .bool true, .int .i64 g']) ∧ w'.cell? ⟨w.heap.size, 0, none⟩ = some (.int .i64 k') ∧ w'.cell? ⟨w.heap.size, 1, none⟩ = some (.slice ak Lk.length ck) ∧ w'.cell? ⟨w.heap.size, 2, none⟩ = some (.bool false) ∧ w'.cell? ⟨w.heap.size, 3, none⟩ = some (.int .i64 gk) ∧ w'.cell? ⟨T1, 0, none⟩ = some (.int .i64 k') ∧ w'.cell? ⟨T1, 1, none⟩ = some (.slice a2 L'.length c2) ∧ w'.cell? ⟨T1, 2, none⟩ = some (.bool true) ∧ w'.cell? ⟨T1, 3, none⟩ = some (.int .i64 g') ∧ w'.cell? ⟨b0, off + k * 3, none⟩ = some (.int .i64 oc)) (by kernel_rfl) hS' (fun hHeld => ?_)
                  refine wpAnyH_take (i := 0) (v := ?_) rfl (by kernel_rfl) (by kernel_rfl) (by kernel_rfl) (fun _ _ _ h => h) (Or.inl ⟨by rfl, ?_⟩) (by assumption) ?_
                  rotate_left
                  · intro wx hSw
                    go_simp
                    try with_reducible rfl
                  simp only [Act.put, List.getElem_toArray, List.getElem_cons_zero, List.setIfInBounds_toArray, List.set_cons_zero, List.set_cons_succ]
                  refine wpAnyH_ready (rs := [1]) (by kernel_rfl) (by simp) ?_
                  refine AllReadyH.cons rfl (fun K' hK => ?_) AllReadyH.nil
                  go_simp
                  go_wp2_with ((go_at_call 16; refine (C1.out _ (by assumption)).mono ?_; rintro e w' ⟨rfl, hS'⟩))
                  refine hK.out _ _ hS' (fun hHeld => ?_)
                  clear hK K'
                  refine wpAnyH_take (i := 2) (v := ?_) rfl (by kernel_rfl) (by kernel_rfl) (by kernel_rfl) (fun _ _ _ h => h) (Or.inl ⟨by rfl, ?_⟩) (by assumption) ?_
                  rotate_left
                  · intro wx hSw
                    go_simp
                    try with_reducible rfl
                  simp only [Act.put, List.getElem_toArray, List.getElem_cons_zero, List.getElem_cons_succ, List.setIfInBounds_toArray, List.set_cons_zero, List.set_cons_succ]
                  refine wpAnyH_take (i := 3) (v := ?_) rfl (by kernel_rfl) (by kernel_rfl) (by kernel_rfl) (fun _ _ _ h => h) (Or.inl ⟨by rfl, ?_⟩) (by assumption) ?_
                  rotate_left
                  · intro wx hSw
                    go_simp
                    try with_reducible rfl
                  simp only [Act.put, List.getElem_toArray, List.getElem_cons_zero, List.getElem_cons_succ, List.setIfInBounds_toArray, List.set_cons_zero, List.set_cons_succ]
                  refine wpAnyH_take (i := 4) (v := ?_) rfl (by kernel_rfl) (by kernel_rfl) (by kernel_rfl) (fun _ _ _ h => h) (Or.inl ⟨by rfl, ?_⟩) (by assumption) ?_
                  rotate_left
                  · intro wx hSw
                    go_simp
                    try with_reducible rfl
                  simp only [Act.put, List.getElem_toArray, List.getElem_cons_zero, List.getElem_cons_succ, List.setIfInBounds_toArray, List.set_cons_zero, List.set_cons_succ]
                  refine wpAnyH_take (i := 5) (v := ?_) rfl (by kernel_rfl) (by kernel_rfl) (by kernel_rfl) (fun _ _ _ h => h) (Or.inl ⟨by rfl, ?_⟩) (by assumption) ?_
                  rotate_left
                  · intro wx hSw
                    go_simp
                    try with_reducible rfl
                  simp only [Act.put, List.getElem_toArray, List.getElem_cons_zero, List.getElem_cons_succ, List.setIfInBounds_toArray, List.set_cons_zero, List.set_cons_succ]
                  refine wpAnyH_take (i := 6) (v := ?_) rfl (by kernel_rfl) (by kernel_rfl) (by kernel_rfl) (fun _ _ _ h => h) (Or.inl ⟨by rfl, ?_⟩) (by assumption) ?_
                  rotate_left
                  · intro wx hSw
                    go_simp
                    try with_reducible rfl
                  simp only [Act.put, List.getElem_toArray, List.getElem_cons_zero, List.getElem_cons_succ, List.setIfInBounds_toArray, List.set_cons_zero, List.set_cons_succ]
                  refine wpAnyH_take (i := 7) (v := ?_) rfl (by kernel_rfl) (by kernel_rfl) (by kernel_rfl) (fun _ _ _ h => h) (Or.inl ⟨by rfl, ?_⟩) (by assumption) ?_
                  rotate_left
                  · intro wx hSw
                    go_simp
                    try with_reducible rfl
                  simp only [Act.put, List.getElem_toArray, List.getElem_cons_zero, List.getElem_cons_succ, List.setIfInBounds_toArray, List.set_cons_zero, List.set_cons_succ]
                  refine wpAnyH_take (i := 8) (v := ?_) rfl (by kernel_rfl) (by kernel_rfl) (by kernel_rfl) (fun _ _ _ h => h) (Or.inl ⟨by rfl, ?_⟩) (by assumption) ?_
                  rotate_left
                  · intro wx hSw
                    go_simp
                    try with_reducible rfl
                  simp only [Act.put, List.getElem_toArray, List.getElem_cons_zero, List.getElem_cons_succ, List.setIfInBounds_toArray, List.set_cons_zero, List.set_cons_succ]
                  refine wpAnyH_take (i := 9) (v := ?_) rfl (by kernel_rfl) (by kernel_rfl) (by kernel_rfl) (fun _ _ _ h => h) (Or.inl ⟨by rfl, ?_⟩) (by assumption) ?_
                  rotate_left
                  · intro wx hSw
                    go_simp
                    try with_reducible rfl
                  simp only [Act.put, List.getElem_toArray, List.getElem_cons_zero, List.getElem_cons_succ, List.setIfInBounds_toArray, List.set_cons_zero, List.set_cons_succ]
                  refine wpAnyH_take (i := 10) (v := ?_) rfl (by kernel_rfl) (by kernel_rfl) (by kernel_rfl) (fun _ _ _ h => h) (Or.inl ⟨by rfl, ?_⟩) (by assumption) ?_
                  rotate_left
                  · intro wx hSw
                    go_simp
                    try with_reducible rfl
                  simp only [Act.put, List.getElem_toArray, List.getElem_cons_zero, List.getElem_cons_succ, List.setIfInBounds_toArray, List.set_cons_zero, List.set_cons_succ]
                  refine wpAnyH_take (i := 11) (v := ?_) rfl (by kernel_rfl) (by kernel_rfl) (by kernel_rfl) (fun _ _ _ h => h) (Or.inl ⟨by rfl, ?_⟩) (by assumption) ?_
                  rotate_left
                  · intro wx hSw
                    go_simp
                    try with_reducible rfl
                  simp only [Act.put, List.getElem_toArray, List.getElem_cons_zero, List.getElem_cons_succ, List.setIfInBounds_toArray, List.set_cons_zero, List.set_cons_succ]
                  refine wpAnyH_take (i := 12) (v := ?_) rfl (by kernel_rfl) (by kernel_rfl) (by kernel_rfl) (fun _ _ _ h => h) (Or.inl ⟨by rfl, ?_⟩) (by assumption) ?_
                  rotate_left
                  · intro wx hSw
                    go_simp
                    try with_reducible rfl
                  simp only [Act.put, List.getElem_toArray, List.getElem_cons_zero, List.getElem_cons_succ, List.setIfInBounds_toArray, List.set_cons_zero, List.set_cons_succ]
                  refine wpAnyH_take (i := 13) (v := ?_) rfl (by kernel_rfl) (by kernel_rfl) (by kernel_rfl) (fun _ _ _ h => h) (Or.inl ⟨by rfl, ?_⟩) (by assumption) ?_
                  rotate_left
                  · intro wx hSw
                    go_simp
                    try with_reducible rfl
                  simp only [Act.put, List.getElem_toArray, List.getElem_cons_zero, List.getElem_cons_succ, List.setIfInBounds_toArray, List.set_cons_zero, List.set_cons_succ]
                  refine wpAnyH_take (i := 14) (v := undef) rfl (by kernel_rfl) (by kernel_rfl) (by kernel_rfl) (fun _ _ _ h => h) (Or.inr ⟨by rfl, rfl⟩) (by assumption) ?_
                  simp only [Act.put, List.getElem_toArray, List.getElem_cons_zero, List.getElem_cons_succ, List.setIfInBounds_toArray, List.set_cons_zero, List.set_cons_succ]
                  refine wpAnyH_take (i := 15) (v := undef) rfl (by kernel_rfl) (by kernel_rfl) (by kernel_rfl) (fun _ _ _ h => h) (Or.inr ⟨by rfl, rfl⟩) (by assumption) ?_
                  simp only [Act.put, List.getElem_toArray, List.getElem_cons_zero, List.getElem_cons_succ, List.setIfInBounds_toArray, List.set_cons_zero, List.set_cons_succ]
                  refine wpAnyH_take (i := 16) (v := undef) rfl (by kernel_rfl) (by kernel_rfl) (by kernel_rfl) (fun _ _ _ h => h) (Or.inr ⟨by rfl, rfl⟩) (by assumption) ?_
                  simp only [Act.put, List.getElem_toArray, List.getElem_cons_zero, List.getElem_cons_succ, List.setIfInBounds_toArray, List.set_cons_zero, List.set_cons_succ]
                  refine wpAnyH_take (i := 17) (v := undef) rfl (by kernel_rfl) (by kernel_rfl) (by kernel_rfl) (fun _ _ _ h => h) (Or.inr ⟨by rfl, rfl⟩) (by assumption) ?_
                  simp only [Act.put, List.getElem_toArray, List.getElem_cons_zero, List.getElem_cons_succ, List.setIfInBounds_toArray, List.set_cons_zero, List.set_cons_succ]
                  refine wpAnyH_take (i := 18) (v := undef) rfl (by kernel_rfl) (by kernel_rfl) (by kernel_rfl) (fun _ _ _ h => h) (Or.inr ⟨by rfl, rfl⟩) (by assumption) ?_
                  simp only [Act.put, List.getElem_toArray, List.getElem_cons_zero, List.getElem_cons_succ, List.setIfInBounds_toArray, List.set_cons_zero, List.set_cons_succ]
                  refine wpAnyH_take (i := 19) (v := undef) rfl (by kernel_rfl) (by kernel_rfl) (by kernel_rfl) (fun _ _ _ h => h) (Or.inr ⟨by rfl, rfl⟩) (by assumption) ?_
                  simp only [Act.put, List.getElem_toArray, List.getElem_cons_zero, List.getElem_cons_succ, List.setIfInBounds_toArray, List.set_cons_zero, List.set_cons_succ]
                  refine wpAnyH_take (i := 20) (v := undef) rfl (by kernel_rfl) (by kernel_rfl) (by kernel_rfl) (fun _ _ _ h => h) (Or.inr ⟨by rfl, rfl⟩) (by assumption) ?_
                  simp only [Act.put, List.getElem_toArray, List.getElem_cons_zero, List.getElem_cons_succ, List.setIfInBounds_toArray, List.set_cons_zero, List.set_cons_succ]
                  refine wpAnyH_take (i := 21) (v := undef) rfl (by kernel_rfl) (by kernel_rfl) (by kernel_rfl) (fun _ _ _ h => h) (Or.inr ⟨by rfl, rfl⟩) (by assumption) ?_
                  simp only [Act.put, List.getElem_toArray, List.getElem_cons_zero, List.getElem_cons_succ, List.setIfInBounds_toArray, List.set_cons_zero, List.set_cons_succ]
                  refine wpAnyH_take (i := 22) (v := ?_) rfl (by kernel_rfl) (by kernel_rfl) (by kernel_rfl) (fun _ _ _ h => h) (Or.inl ⟨by rfl, ?_⟩) (by assumption) ?_
                  rotate_left
                  · intro wx hSw
                    go_simp
                    try with_reducible rfl
                  simp only [Act.put, List.getElem_toArray, List.getElem_cons_zero, List.getElem_cons_succ, List.setIfInBounds_toArray, List.set_cons_zero, List.set_cons_succ]
                  refine wpAnyH_take (i := 23) (v := ?_) rfl (by kernel_rfl) (by kernel_rfl) (by kernel_rfl) (fun _ _ _ h => h) (Or.inl ⟨by rfl, ?_⟩) (by assumption) ?_
                  rotate_left
                  · intro wx hSw
                    go_simp
                    try with_reducible rfl
                  simp only [Act.put, List.getElem_toArray, List.getElem_cons_zero, List.getElem_cons_succ, List.setIfInBounds_toArray, List.set_cons_zero, List.set_cons_succ]
                  refine wpAnyH_take (i := 24) (v := ?_) rfl (by kernel_rfl) (by kernel_rfl) (by kernel_rfl) (fun _ _ _ h => h) (Or.inl ⟨by rfl, ?_⟩) (by assumption) ?_
                  rotate_left
                  · intro wx hSw
                    go_simp
                    try with_reducible rfl
                  simp only [Act.put, List.getElem_toArray, List.getElem_cons_zero, List.getElem_cons_succ, List.setIfInBounds_toArray, List.set_cons_zero, List.set_cons_succ]
                  refine wpAnyH_take (i := 25) (v := ?_) rfl (by kernel_rfl) (by kernel_rfl) (by kernel_rfl) (fun _ _ _ h => h) (Or.inl ⟨by rfl, ?_⟩) (by assumption) ?_
                  rotate_left
                  · intro wx hSw
                    go_simp
                    try with_reducible rfl
                  simp only [Act.put, List.getElem_toArray, List.getElem_cons_zero, List.getElem_cons_succ, List.setIfInBounds_toArray, List.set_cons_zero, List.set_cons_succ]
                  refine wpAnyH_take (i := 26) (v := ?_) rfl (by kernel_rfl) (by kernel_rfl) (by kernel_rfl) (fun _ _ _ h => h) (Or.inl ⟨by rfl, ?_⟩) (by assumption) ?_
                  rotate_left
                  · intro wx hSw
                    go_simp
                    try with_reducible rfl
                  simp only [Act.put, List.getElem_toArray, List.getElem_cons_zero, List.getElem_cons_succ, List.setIfInBounds_toArray, List.set_cons_zero, List.set_cons_succ]
                  refine wpAnyH_take (i := 27) (v := ?_) rfl (by kernel_rfl) (by kernel_rfl) (by kernel_rfl) (fun _ _ _ h => h) (Or.inl ⟨by rfl, ?_⟩) (by assumption) ?_
                  rotate_left
                  · intro wx hSw
                    go_simp
                    try with_reducible rfl
                  simp only [Act.put, List.getElem_toArray, List.getElem_cons_zero, List.getElem_cons_succ, List.setIfInBounds_toArray, List.set_cons_zero, List.set_cons_succ]
                  refine wpAnyH_take (i := 28) (v := ?_) rfl (by kernel_rfl) (by kernel_rfl) (by kernel_rfl) (fun _ _ _ h => h) (Or.inl ⟨by rfl, ?_⟩) (by assumption) ?_
                  rotate_left
                  · intro wx hSw
                    go_simp
                    try with_reducible rfl
                  simp only [Act.put, List.getElem_toArray, List.getElem_cons_zero, List.getElem_cons_succ, List.setIfInBounds_toArray, List.set_cons_zero, List.set_cons_succ]
                  refine wpAnyH_take (i := 29) (v := ?_) rfl (by kernel_rfl) (by kernel_rfl) (by kernel_rfl) (fun _ _ _ h => h) (Or.inl ⟨by rfl, ?_⟩) (by assumption) ?_
                  rotate_left
                  · intro wx hSw
                    go_simp
                    try with_reducible rfl
                  simp only [Act.put, List.getElem_toArray, List.getElem_cons_zero, List.getElem_cons_succ, List.setIfInBounds_toArray, List.set_cons_zero, List.set_cons_succ]
                  refine wpAnyH_take (i := 30) (v := ?_) rfl (by kernel_rfl) (by kernel_rfl) (by kernel_rfl) (fun _ _ _ h => h) (Or.inl ⟨by rfl, ?_⟩) (by assumption) ?_
                  rotate_left
                  · intro wx hSw
                    go_simp
                    try with_reducible rfl
                  simp only [Act.put, List.getElem_toArray, List.getElem_cons_zero, List.getElem_cons_succ, List.setIfInBounds_toArray, List.set_cons_zero, List.set_cons_succ]
                  refine wpAnyH_take (i := 31) (v := ?_) rfl (by kernel_rfl) (by kernel_rfl) (by kernel_rfl) (fun _ _ _ h => h) (Or.inl ⟨by rfl, ?_⟩) (by assumption) ?_
                  rotate_left
                  · intro wx hSw
                    go_simp
                    try with_reducible rfl
                  simp only [Act.put, List.getElem_toArray, List.getElem_cons_zero, List.getElem_cons_succ, List.setIfInBounds_toArray, List.set_cons_zero, List.set_cons_succ]
                  refine wpAnyH_take (i := 32) (v := ?_) rfl (by kernel_rfl) (by kernel_rfl) (by kernel_rfl) (fun _ _ _ h => h) (Or.inl ⟨by rfl, ?_⟩) (by assumption) ?_
                  rotate_left
                  · intro wx hSw
                    go_simp
                    try with_reducible rfl
                  simp only [Act.put, List.getElem_toArray, List.getElem_cons_zero, List.getElem_cons_succ, List.setIfInBounds_toArray, List.set_cons_zero, List.set_cons_succ]
                  refine wpAnyH_take (i := 33) (v := ?_) rfl (by kernel_rfl) (by kernel_rfl) (by kernel_rfl) (fun _ _ _ h => h) (Or.inl ⟨by rfl, ?_⟩) (by assumption) ?_
                  rotate_left
                  · intro wx hSw
                    go_simp
                    try with_reducible rfl
                  simp only [Act.put, List.getElem_toArray, List.getElem_cons_zero, List.getElem_cons_succ, List.setIfInBounds_toArray, List.set_cons_zero, List.set_cons_succ]
                  refine wpAnyH_take (i := 34) (v := ?_) rfl (by kernel_rfl) (by kernel_rfl) (by kernel_rfl) (fun _ _ _ h => h) (Or.inl ⟨by rfl, ?_⟩) (by assumption) ?_
                  rotate_left
                  · intro wx hSw
                    go_simp
                    try with_reducible rfl
                  simp only [Act.put, List.getElem_toArray, List.getElem_cons_zero, List.getElem_cons_succ, List.setIfInBounds_toArray, List.set_cons_zero, List.set_cons_succ]
                  refine wpAnyH_take (i := 35) (v := ?_) rfl (by kernel_rfl) (by kernel_rfl) (by kernel_rfl) (fun _ _ _ h => h) (Or.inl ⟨by rfl, ?_⟩) (by assumption) ?_
                  rotate_left
                  · intro wx hSw
                    go_simp
                    try with_reducible rfl
                  simp only [Act.put, List.getElem_toArray, List.getElem_cons_zero, List.getElem_cons_succ, List.setIfInBounds_toArray, List.set_cons_zero, List.set_cons_succ]
                  refine wpAnyH_take (i := 36) (v := ?_) rfl (by kernel_rfl) (by kernel_rfl) (by kernel_rfl) (fun _ _ _ h => h) (Or.inl ⟨by rfl, ?_⟩) (by assumption) ?_
                  rotate_left
                  · intro wx hSw
                    go_simp
                    try with_reducible rfl
                  simp only [Act.put, List.getElem_toArray, List.getElem_cons_zero, List.getElem_cons_succ, List.setIfInBounds_toArray, List.set_cons_zero, List.set_cons_succ]
                  refine wpAnyH_take (i := 37) (v := ?_) rfl (by kernel_rfl) (by kernel_rfl) (by kernel_rfl) (fun _ _ _ h => h) (Or.inl ⟨by rfl, ?_⟩) (by assumption) ?_
                  rotate_left
                  · intro wx hSw
                    go_simp
                    try with_reducible rfl
                  simp only [Act.put, List.getElem_toArray, List.getElem_cons_zero, List.getElem_cons_succ, List.setIfInBounds_toArray, List.set_cons_zero, List.set_cons_succ]
                  refine wpAnyH_take (i := 38) (v := ?_) rfl (by kernel_rfl) (by kernel_rfl) (by kernel_rfl) (fun _ _ _ h => h) (Or.inl ⟨by rfl, ?_⟩) (by assumption) ?_
                  rotate_left
                  · intro wx hSw
                    go_simp
                    try with_reducible rfl
                  simp only [Act.put, List.getElem_toArray, List.getElem_cons_zero, List.getElem_cons_succ, List.setIfInBounds_toArray, List.set_cons_zero, List.set_cons_succ]
                  refine wpAnyH_done (by kernel_rfl) ?_ _
                  all_goals
                    obtain ⟨⟨hbW, hxB, hxT⟩, -⟩ := id hS'
                    obtain ⟨q0, q0'⟩ := hxB.cell 0
                    obtain ⟨q1, q1'⟩ := hxB.cell 1
                    obtain ⟨q2, q2'⟩ := hxB.cell 2
                    obtain ⟨q3, q3'⟩ := hxB.cell 3
                    obtain ⟨t0, t0'⟩ := hxT.cell 0
                    obtain ⟨t1, t1'⟩ := hxT.cell 1
                    obtain ⟨t2, t2'⟩ := hxT.cell 2
                    obtain ⟨t3, t3'⟩ := hxT.cell 3
                    have HBF := hide' (HW1.out.trans (hbW.mono hs1'))
                    have HRF := hide' (HV1.out.below hbW (Nat.le_refl _))
                    clear hbW hxB hxT hS'
                    go_wp2
                    go_roundw
                    case rel => exact ⟨k + 1, _, _, by go_num, by omega, HMT.out, next3 HAT2.out HRF.out HK2.out HE2.out HG1.out HBF.out⟩
                    case measure => simp [intOf]; omega
                · have hs' : s' = false := by have h := HSH.out; simpa [h10] using h
                  subst hs'
                  have e10 : (oc == 10) = false := beq_eq_false_iff_ne.2 h10
                  clear h10
                  have hS' : Held W1 w.heap.size T1 b0 (off + k * 3) (.int .i64 k') (.slice ak Lk.length ck) (.bool false) (.int .i64 gk) (.int .i64 k') (.slice a2 L'.length c2) (.bool false) (.int .i64 g') (.int .i64 oc) W1.drew := (Held.mk (Below.refl _ _) HBXW.out HX1.out (HCS.out W1 HBLW.out).1).below ((Below.refl _ _).drew)
                  have C1 : Hid (∀ W, Held W1 w.heap.size T1 b0 (off + k * 3) (.int .i64 k') (.slice ak Lk.length ck) (.bool false) (.int .i64 gk) (.int .i64 k') (.slice a2 L'.length c2) (.bool false) (.int .i64 g') (.int .i64 oc) W → Calls Try.prog 16 #[.agg #[.int .i64 k', .slice a2 L'.length c2, .bool false, .int .i64 g']] W fun e w' => e = .returned (.bool true) ∧ Held W1 w.heap.size T1 b0 (off + k * 3) (.int .i64 k') (.slice ak Lk.length ck) (.bool false) (.int .i64 gk) (.int .i64 k') (.slice a2 L'.length c2) (.bool false) (.int .i64 g') (.int .i64 oc) w') := fun W h => by
                    have hmm := HMA.out W (.agg #[.int .i64 k', .slice a2 L'.length c2, .bool false, .int .i64 g']) ⟨k', L', false, g'⟩ ⟨_, rfl, HV1.out.below h.1.1 (Nat.le_refl _), HK2.out, HE2.out⟩
                    rw [decide_eq_true HMT.out] at hmm
                    exact hmm.mono (fun e w' hh => ⟨hh.1, h.below hh.2⟩)
                  go_wp2
                  refine wp_region_held_drew (S := fun w' => (Below W1.heap.size W1 w' ∧ Bx w' w.heap.size #[.int .i64 k', .slice ak Lk.length ck, .bool false, .int .i64 gk] ∧ Bx w' T1 #[.int .i64 k', .slice a2 L'.length c2, .bool false, .int .i64 g']) ∧ w'.cell? ⟨w.heap.size, 0, none⟩ = some (.int .i64 k') ∧ w'.cell? ⟨w.heap.size, 1, none⟩ = some (.slice ak Lk.length ck) ∧ w'.cell? ⟨w.heap.size, 2, none⟩ = some (.bool false) ∧ w'.cell? ⟨w.heap.size, 3, none⟩ = some (.int .i64 gk) ∧ w'.cell? ⟨T1, 0, none⟩ = some (.int .i64 k') ∧ w'.cell? ⟨T1, 1, none⟩ = some (.slice a2 L'.length c2) ∧ w'.cell? ⟨T1, 2, none⟩ = some (.bool false) ∧ w'.cell? ⟨T1, 3, none⟩ = some (.int .i64 g') ∧ w'.cell? ⟨b0, off + k * 3, none⟩ = some (.int .i64 oc)) (by kernel_rfl) hS' (fun hHeld => ?_)
                  refine wpAnyH_take (i := 0) (v := ?_) rfl (by kernel_rfl) (by kernel_rfl) (by kernel_rfl) (fun _ _ _ h => h) (Or.inl ⟨by rfl, ?_⟩) (by assumption) ?_
                  rotate_left
                  · intro wx hSw
                    go_simp
                    try with_reducible rfl
                  simp only [Act.put, List.getElem_toArray, List.getElem_cons_zero, List.setIfInBounds_toArray, List.set_cons_zero, List.set_cons_succ]
                  refine wpAnyH_ready (rs := [1]) (by kernel_rfl) (by simp) ?_
                  refine AllReadyH.cons rfl (fun K' hK => ?_) AllReadyH.nil
                  go_simp
                  go_wp2_with ((go_at_call 16; refine (C1.out _ (by assumption)).mono ?_; rintro e w' ⟨rfl, hS'⟩))
                  refine hK.out _ _ hS' (fun hHeld => ?_)
                  clear hK K'
                  refine wpAnyH_take (i := 2) (v := ?_) rfl (by kernel_rfl) (by kernel_rfl) (by kernel_rfl) (fun _ _ _ h => h) (Or.inl ⟨by rfl, ?_⟩) (by assumption) ?_
                  rotate_left
                  · intro wx hSw
                    go_simp
                    try with_reducible rfl
                  simp only [Act.put, List.getElem_toArray, List.getElem_cons_zero, List.getElem_cons_succ, List.setIfInBounds_toArray, List.set_cons_zero, List.set_cons_succ]
                  refine wpAnyH_take (i := 3) (v := ?_) rfl (by kernel_rfl) (by kernel_rfl) (by kernel_rfl) (fun _ _ _ h => h) (Or.inl ⟨by rfl, ?_⟩) (by assumption) ?_
                  rotate_left
                  · intro wx hSw
                    go_simp
                    try with_reducible rfl
                  simp only [Act.put, List.getElem_toArray, List.getElem_cons_zero, List.getElem_cons_succ, List.setIfInBounds_toArray, List.set_cons_zero, List.set_cons_succ]
                  refine wpAnyH_take (i := 4) (v := ?_) rfl (by kernel_rfl) (by kernel_rfl) (by kernel_rfl) (fun _ _ _ h => h) (Or.inl ⟨by rfl, ?_⟩) (by assumption) ?_
                  rotate_left
                  · intro wx hSw
                    go_simp
                    try with_reducible rfl
                  simp only [Act.put, List.getElem_toArray, List.getElem_cons_zero, List.getElem_cons_succ, List.setIfInBounds_toArray, List.set_cons_zero, List.set_cons_succ]
                  refine wpAnyH_take (i := 5) (v := ?_) rfl (by kernel_rfl) (by kernel_rfl) (by kernel_rfl) (fun _ _ _ h => h) (Or.inl ⟨by rfl, ?_⟩) (by assumption) ?_
                  rotate_left
                  · intro wx hSw
                    go_simp
                    try with_reducible rfl
                  simp only [Act.put, List.getElem_toArray, List.getElem_cons_zero, List.getElem_cons_succ, List.setIfInBounds_toArray, List.set_cons_zero, List.set_cons_succ]
                  refine wpAnyH_take (i := 6) (v := ?_) rfl (by kernel_rfl) (by kernel_rfl) (by kernel_rfl) (fun _ _ _ h => h) (Or.inl ⟨by rfl, ?_⟩) (by assumption) ?_
                  rotate_left
                  · intro wx hSw
                    go_simp
                    try with_reducible rfl
                  simp only [Act.put, List.getElem_toArray, List.getElem_cons_zero, List.getElem_cons_succ, List.setIfInBounds_toArray, List.set_cons_zero, List.set_cons_succ]
                  refine wpAnyH_take (i := 7) (v := ?_) rfl (by kernel_rfl) (by kernel_rfl) (by kernel_rfl) (fun _ _ _ h => h) (Or.inl ⟨by rfl, ?_⟩) (by assumption) ?_
                  rotate_left
                  · intro wx hSw
                    go_simp
                    try with_reducible rfl
                  simp only [Act.put, List.getElem_toArray, List.getElem_cons_zero, List.getElem_cons_succ, List.setIfInBounds_toArray, List.set_cons_zero, List.set_cons_succ]
                  refine wpAnyH_take (i := 8) (v := ?_) rfl (by kernel_rfl) (by kernel_rfl) (by kernel_rfl) (fun _ _ _ h => h) (Or.inl ⟨by rfl, ?_⟩) (by assumption) ?_
                  rotate_left
                  · intro wx hSw
                    go_simp
                    try with_reducible rfl
                  simp only [Act.put, List.getElem_toArray, List.getElem_cons_zero, List.getElem_cons_succ, List.setIfInBounds_toArray, List.set_cons_zero, List.set_cons_succ]
                  refine wpAnyH_take (i := 9) (v := ?_) rfl (by kernel_rfl) (by kernel_rfl) (by kernel_rfl) (fun _ _ _ h => h) (Or.inl ⟨by rfl, ?_⟩) (by assumption) ?_
                  rotate_left
                  · intro wx hSw
                    go_simp
                    try with_reducible rfl
                  simp only [Act.put, List.getElem_toArray, List.getElem_cons_zero, List.getElem_cons_succ, List.setIfInBounds_toArray, List.set_cons_zero, List.set_cons_succ]
                  refine wpAnyH_take (i := 10) (v := ?_) rfl (by kernel_rfl) (by kernel_rfl) (by kernel_rfl) (fun _ _ _ h => h) (Or.inl ⟨by rfl, ?_⟩) (by assumption) ?_
                  rotate_left
                  · intro wx hSw
                    go_simp
                    try with_reducible rfl
                  simp only [Act.put, List.getElem_toArray, List.getElem_cons_zero, List.getElem_cons_succ, List.setIfInBounds_toArray, List.set_cons_zero, List.set_cons_succ]
                  refine wpAnyH_take (i := 11) (v := ?_) rfl (by kernel_rfl) (by kernel_rfl) (by kernel_rfl) (fun _ _ _ h => h) (Or.inl ⟨by rfl, ?_⟩) (by assumption) ?_
                  rotate_left
                  · intro wx hSw
                    go_simp
                    try with_reducible rfl
                  simp only [Act.put, List.getElem_toArray, List.getElem_cons_zero, List.getElem_cons_succ, List.setIfInBounds_toArray, List.set_cons_zero, List.set_cons_succ]
                  refine wpAnyH_take (i := 12) (v := ?_) rfl (by kernel_rfl) (by kernel_rfl) (by kernel_rfl) (fun _ _ _ h => h) (Or.inl ⟨by rfl, ?_⟩) (by assumption) ?_
                  rotate_left
                  · intro wx hSw
                    go_simp
                    try with_reducible rfl
                  simp only [Act.put, List.getElem_toArray, List.getElem_cons_zero, List.getElem_cons_succ, List.setIfInBounds_toArray, List.set_cons_zero, List.set_cons_succ]
                  refine wpAnyH_take (i := 13) (v := ?_) rfl (by kernel_rfl) (by kernel_rfl) (by kernel_rfl) (fun _ _ _ h => h) (Or.inl ⟨by rfl, ?_⟩) (by assumption) ?_
                  rotate_left
                  · intro wx hSw
                    go_simp
                    try with_reducible rfl
                  simp only [Act.put, List.getElem_toArray, List.getElem_cons_zero, List.getElem_cons_succ, List.setIfInBounds_toArray, List.set_cons_zero, List.set_cons_succ]
                  refine wpAnyH_take (i := 14) (v := undef) rfl (by kernel_rfl) (by kernel_rfl) (by kernel_rfl) (fun _ _ _ h => h) (Or.inr ⟨by rfl, rfl⟩) (by assumption) ?_
                  simp only [Act.put, List.getElem_toArray, List.getElem_cons_zero, List.getElem_cons_succ, List.setIfInBounds_toArray, List.set_cons_zero, List.set_cons_succ]
                  refine wpAnyH_take (i := 15) (v := undef) rfl (by kernel_rfl) (by kernel_rfl) (by kernel_rfl) (fun _ _ _ h => h) (Or.inr ⟨by rfl, rfl⟩) (by assumption) ?_
                  simp only [Act.put, List.getElem_toArray, List.getElem_cons_zero, List.getElem_cons_succ, List.setIfInBounds_toArray, List.set_cons_zero, List.set_cons_succ]
                  refine wpAnyH_take (i := 16) (v := undef) rfl (by kernel_rfl) (by kernel_rfl) (by kernel_rfl) (fun _ _ _ h => h) (Or.inr ⟨by rfl, rfl⟩) (by assumption) ?_
                  simp only [Act.put, List.getElem_toArray, List.getElem_cons_zero, List.getElem_cons_succ, List.setIfInBounds_toArray, List.set_cons_zero, List.set_cons_succ]
                  refine wpAnyH_take (i := 17) (v := undef) rfl (by kernel_rfl) (by kernel_rfl) (by kernel_rfl) (fun _ _ _ h => h) (Or.inr ⟨by rfl, rfl⟩) (by assumption) ?_
                  simp only [Act.put, List.getElem_toArray, List.getElem_cons_zero, List.getElem_cons_succ, List.setIfInBounds_toArray, List.set_cons_zero, List.set_cons_succ]
                  refine wpAnyH_take (i := 18) (v := undef) rfl (by kernel_rfl) (by kernel_rfl) (by kernel_rfl) (fun _ _ _ h => h) (Or.inr ⟨by rfl, rfl⟩) (by assumption) ?_
                  simp only [Act.put, List.getElem_toArray, List.getElem_cons_zero, List.getElem_cons_succ, List.setIfInBounds_toArray, List.set_cons_zero, List.set_cons_succ]
                  refine wpAnyH_take (i := 19) (v := undef) rfl (by kernel_rfl) (by kernel_rfl) (by kernel_rfl) (fun _ _ _ h => h) (Or.inr ⟨by rfl, rfl⟩) (by assumption) ?_
                  simp only [Act.put, List.getElem_toArray, List.getElem_cons_zero, List.getElem_cons_succ, List.setIfInBounds_toArray, List.set_cons_zero, List.set_cons_succ]
                  refine wpAnyH_take (i := 20) (v := undef) rfl (by kernel_rfl) (by kernel_rfl) (by kernel_rfl) (fun _ _ _ h => h) (Or.inr ⟨by rfl, rfl⟩) (by assumption) ?_
                  simp only [Act.put, List.getElem_toArray, List.getElem_cons_zero, List.getElem_cons_succ, List.setIfInBounds_toArray, List.set_cons_zero, List.set_cons_succ]
                  refine wpAnyH_take (i := 21) (v := undef) rfl (by kernel_rfl) (by kernel_rfl) (by kernel_rfl) (fun _ _ _ h => h) (Or.inr ⟨by rfl, rfl⟩) (by assumption) ?_
                  simp only [Act.put, List.getElem_toArray, List.getElem_cons_zero, List.getElem_cons_succ, List.setIfInBounds_toArray, List.set_cons_zero, List.set_cons_succ]
                  refine wpAnyH_take (i := 22) (v := ?_) rfl (by kernel_rfl) (by kernel_rfl) (by kernel_rfl) (fun _ _ _ h => h) (Or.inl ⟨by rfl, ?_⟩) (by assumption) ?_
                  rotate_left
                  · intro wx hSw
                    go_simp
                    try with_reducible rfl
                  simp only [Act.put, List.getElem_toArray, List.getElem_cons_zero, List.getElem_cons_succ, List.setIfInBounds_toArray, List.set_cons_zero, List.set_cons_succ]
                  refine wpAnyH_take (i := 23) (v := ?_) rfl (by kernel_rfl) (by kernel_rfl) (by kernel_rfl) (fun _ _ _ h => h) (Or.inl ⟨by rfl, ?_⟩) (by assumption) ?_
                  rotate_left
                  · intro wx hSw
                    go_simp
                    try with_reducible rfl
                  simp only [Act.put, List.getElem_toArray, List.getElem_cons_zero, List.getElem_cons_succ, List.setIfInBounds_toArray, List.set_cons_zero, List.set_cons_succ]
                  refine wpAnyH_take (i := 24) (v := ?_) rfl (by kernel_rfl) (by kernel_rfl) (by kernel_rfl) (fun _ _ _ h => h) (Or.inl ⟨by rfl, ?_⟩) (by assumption) ?_
                  rotate_left
                  · intro wx hSw
                    go_simp
                    try with_reducible rfl
                  simp only [Act.put, List.getElem_toArray, List.getElem_cons_zero, List.getElem_cons_succ, List.setIfInBounds_toArray, List.set_cons_zero, List.set_cons_succ]
                  refine wpAnyH_take (i := 25) (v := ?_) rfl (by kernel_rfl) (by kernel_rfl) (by kernel_rfl) (fun _ _ _ h => h) (Or.inl ⟨by rfl, ?_⟩) (by assumption) ?_
                  rotate_left
                  · intro wx hSw
                    go_simp
                    try with_reducible rfl
                  simp only [Act.put, List.getElem_toArray, List.getElem_cons_zero, List.getElem_cons_succ, List.setIfInBounds_toArray, List.set_cons_zero, List.set_cons_succ]
                  refine wpAnyH_take (i := 26) (v := ?_) rfl (by kernel_rfl) (by kernel_rfl) (by kernel_rfl) (fun _ _ _ h => h) (Or.inl ⟨by rfl, ?_⟩) (by assumption) ?_
                  rotate_left
                  · intro wx hSw
                    go_simp
                    try with_reducible rfl
                  simp only [Act.put, List.getElem_toArray, List.getElem_cons_zero, List.getElem_cons_succ, List.setIfInBounds_toArray, List.set_cons_zero, List.set_cons_succ]
                  refine wpAnyH_take (i := 27) (v := ?_) rfl (by kernel_rfl) (by kernel_rfl) (by kernel_rfl) (fun _ _ _ h => h) (Or.inl ⟨by rfl, ?_⟩) (by assumption) ?_
                  rotate_left
                  · intro wx hSw
                    go_simp
                    try with_reducible rfl
                  simp only [Act.put, List.getElem_toArray, List.getElem_cons_zero, List.getElem_cons_succ, List.setIfInBounds_toArray, List.set_cons_zero, List.set_cons_succ]
                  refine wpAnyH_take (i := 28) (v := ?_) rfl (by kernel_rfl) (by kernel_rfl) (by kernel_rfl) (fun _ _ _ h => h) (Or.inl ⟨by rfl, ?_⟩) (by assumption) ?_
                  rotate_left
                  · intro wx hSw
                    go_simp
                    try with_reducible rfl
                  simp only [Act.put, List.getElem_toArray, List.getElem_cons_zero, List.getElem_cons_succ, List.setIfInBounds_toArray, List.set_cons_zero, List.set_cons_succ]
                  refine wpAnyH_take (i := 29) (v := ?_) rfl (by kernel_rfl) (by kernel_rfl) (by kernel_rfl) (fun _ _ _ h => h) (Or.inl ⟨by rfl, ?_⟩) (by assumption) ?_
                  rotate_left
                  · intro wx hSw
                    go_simp
                    try with_reducible rfl
                  simp only [Act.put, List.getElem_toArray, List.getElem_cons_zero, List.getElem_cons_succ, List.setIfInBounds_toArray, List.set_cons_zero, List.set_cons_succ]
                  refine wpAnyH_take (i := 30) (v := ?_) rfl (by kernel_rfl) (by kernel_rfl) (by kernel_rfl) (fun _ _ _ h => h) (Or.inl ⟨by rfl, ?_⟩) (by assumption) ?_
                  rotate_left
                  · intro wx hSw
                    go_simp
                    try with_reducible rfl
                  simp only [Act.put, List.getElem_toArray, List.getElem_cons_zero, List.getElem_cons_succ, List.setIfInBounds_toArray, List.set_cons_zero, List.set_cons_succ]
                  refine wpAnyH_take (i := 31) (v := ?_) rfl (by kernel_rfl) (by kernel_rfl) (by kernel_rfl) (fun _ _ _ h => h) (Or.inl ⟨by rfl, ?_⟩) (by assumption) ?_
                  rotate_left
                  · intro wx hSw
                    go_simp
                    try with_reducible rfl
                  simp only [Act.put, List.getElem_toArray, List.getElem_cons_zero, List.getElem_cons_succ, List.setIfInBounds_toArray, List.set_cons_zero, List.set_cons_succ]
                  refine wpAnyH_take (i := 32) (v := ?_) rfl (by kernel_rfl) (by kernel_rfl) (by kernel_rfl) (fun _ _ _ h => h) (Or.inl ⟨by rfl, ?_⟩) (by assumption) ?_
                  rotate_left
                  · intro wx hSw
                    go_simp
                    try with_reducible rfl
                  simp only [Act.put, List.getElem_toArray, List.getElem_cons_zero, List.getElem_cons_succ, List.setIfInBounds_toArray, List.set_cons_zero, List.set_cons_succ]
                  refine wpAnyH_take (i := 33) (v := ?_) rfl (by kernel_rfl) (by kernel_rfl) (by kernel_rfl) (fun _ _ _ h => h) (Or.inl ⟨by rfl, ?_⟩) (by assumption) ?_
                  rotate_left
                  · intro wx hSw
                    go_simp
                    try with_reducible rfl
                  simp only [Act.put, List.getElem_toArray, List.getElem_cons_zero, List.getElem_cons_succ, List.setIfInBounds_toArray, List.set_cons_zero, List.set_cons_succ]
                  refine wpAnyH_take (i := 34) (v := ?_) rfl (by kernel_rfl) (by kernel_rfl) (by kernel_rfl) (fun _ _ _ h => h) (Or.inl ⟨by rfl, ?_⟩) (by assumption) ?_
                  rotate_left
                  · intro wx hSw
                    go_simp
                    try with_reducible rfl
                  simp only [Act.put, List.getElem_toArray, List.getElem_cons_zero, List.getElem_cons_succ, List.setIfInBounds_toArray, List.set_cons_zero, List.set_cons_succ]
                  refine wpAnyH_take (i := 35) (v := ?_) rfl (by kernel_rfl) (by kernel_rfl) (by kernel_rfl) (fun _ _ _ h => h) (Or.inl ⟨by rfl, ?_⟩) (by assumption) ?_
                  rotate_left
                  · intro wx hSw
                    go_simp
                    try with_reducible rfl
                  simp only [Act.put, List.getElem_toArray, List.getElem_cons_zero, List.getElem_cons_succ, List.setIfInBounds_toArray, List.set_cons_zero, List.set_cons_succ]
                  refine wpAnyH_take (i := 36) (v := ?_) rfl (by kernel_rfl) (by kernel_rfl) (by kernel_rfl) (fun _ _ _ h => h) (Or.inl ⟨by rfl, ?_⟩) (by assumption) ?_
                  rotate_left
                  · intro wx hSw
                    go_simp
                    try with_reducible rfl
                  simp only [Act.put, List.getElem_toArray, List.getElem_cons_zero, List.getElem_cons_succ, List.setIfInBounds_toArray, List.set_cons_zero, List.set_cons_succ]
                  refine wpAnyH_take (i := 37) (v := ?_) rfl (by kernel_rfl) (by kernel_rfl) (by kernel_rfl) (fun _ _ _ h => h) (Or.inl ⟨by rfl, ?_⟩) (by assumption) ?_
                  rotate_left
                  · intro wx hSw
                    go_simp
                    try with_reducible rfl
                  simp only [Act.put, List.getElem_toArray, List.getElem_cons_zero, List.getElem_cons_succ, List.setIfInBounds_toArray, List.set_cons_zero, List.set_cons_succ]
                  refine wpAnyH_take (i := 38) (v := ?_) rfl (by kernel_rfl) (by kernel_rfl) (by kernel_rfl) (fun _ _ _ h => h) (Or.inl ⟨by rfl, ?_⟩) (by assumption) ?_
                  rotate_left
                  · intro wx hSw
                    go_simp
                    try with_reducible rfl
                  simp only [Act.put, List.getElem_toArray, List.getElem_cons_zero, List.getElem_cons_succ, List.setIfInBounds_toArray, List.set_cons_zero, List.set_cons_succ]
                  refine wpAnyH_done (by kernel_rfl) ?_ _
                  all_goals
                    obtain ⟨⟨hbW, hxB, hxT⟩, -⟩ := id hS'
                    obtain ⟨q0, q0'⟩ := hxB.cell 0
                    obtain ⟨q1, q1'⟩ := hxB.cell 1
                    obtain ⟨q2, q2'⟩ := hxB.cell 2
                    obtain ⟨q3, q3'⟩ := hxB.cell 3
                    obtain ⟨t0, t0'⟩ := hxT.cell 0
                    obtain ⟨t1, t1'⟩ := hxT.cell 1
                    obtain ⟨t2, t2'⟩ := hxT.cell 2
                    obtain ⟨t3, t3'⟩ := hxT.cell 3
                    have HBF := hide' (HW1.out.trans (hbW.mono hs1'))
                    have HRF := hide' (HV1.out.below hbW (Nat.le_refl _))
                    clear hbW hxB hxT hS'
                    go_wp2
                    go_roundw
                    case rel => exact ⟨k + 1, _, _, by go_num, by omega, HMT.out, next3 HAT2.out HRF.out HK2.out HE2.out HG1.out HBF.out⟩
                    case measure => simp [intOf]; omega
          · have HBL := hide' hat.out.2.below
            go_wp2
            go_ret
            exact ⟨rfl, HBL.out⟩
      · rw [decide_eq_false hm]
        go_wp2
        go_ret
        exact ⟨rfl, HB3.out⟩
    · go_wp2
      go_ret
      exact ⟨rfl, HB2.out⟩
  · rw [decide_eq_false hl]
    go_wp2
    go_ret
    exact ⟨rfl, HB2.out⟩

theorem own : ownKnob Try.prog.godebug = none := by kernel_rfl
theorem laidOut : laidOutB Try.prog = true := by kernel_rfl

set_option linter.unusedVariables false in
set_option maxRecDepth 100000 in
theorem lifted (os : Os) (started : os.Started) (H : Type) (enc : TypeId × Value → H) :
    ReturnsInHanded {} Try.checked os 6 .any (Rows.objsStaysSpec.pre6 enc Try.prog Try.f6 Rows.objsStaysRow.domain false) (Rows.objsStaysSpec.post enc Try.prog Try.f6 false true false false) := by
  refine returnsInHanded_of_change (C := Try.checked) own started (by kernel_rfl) Try.func6
    (ChangeSpec.witness6 (enc := enc) (C := Try.checked) false ⟨#[], #[.agg #[.int .i64 0, .slice none 0 0, .bool false, .int .i64 0], .slice none 0 0], []⟩ 8 (by kernel_rfl) (by kernel_rfl) (by kernel_rfl) (by kernel_rfl)) ?_
  intro W base args ds gs before hval0 hW hcnd _
  have hval : ∀ (j : Nat) t v, Try.f6.params[j]? = some t → args[j]? = some v → Value.okWide Try.prog W .any base t v := hval0
  have hW' := hW
  obtain ⟨p, q, hA0, hV, rfl, hfz, hnd⟩ := hW
  have hA : DataW.TrodAll enc Try.prog W 0 (fun _ => true) true Try.f6.params.toList args.toList ds p := hA0
  rw [Try.params6] at hA hval
  obtain ⟨v0, vs0, d0, ds0, p0, q0, hargs, rfl, rfl, h0, r0⟩ := trodAll_cons hA
  obtain ⟨v1, vs1, d1, ds1, p1, q1, rfl, rfl, rfl, h1, r1⟩ := trodAll_cons r0
  obtain ⟨rfl, rfl, rfl⟩ := trodAll_nil r1
  obtain rfl : args = #[v0, v1] := by cases args; simp_all
  obtain ⟨rfl, rfl⟩ := trodVars_none hV
  have k0 := h0
  have lt0 : ∀ x ∈ p0, x.block < W.heap.size := by obtain ⟨m, hm⟩ := k0; exact DataW.trod_lt m _ _ _ hm
  obtain ⟨s0, w0⟩ := open_state (hval 0 24 v0 rfl rfl) h0
  obtain ⟨a1, len1, cap1, rfl⟩ := okWide_slice Try.underlying36 (hval 1 36 v1 rfl rfl)
  have k1 := h1
  have lt1 : ∀ x ∈ p1, x.block < W.heap.size := by obtain ⟨m, hm⟩ := k1; exact DataW.trod_lt m _ _ _ hm
  obtain ⟨l1, w1⟩ : ∃ l, RdO W (.slice a1 len1 cap1) l := by
    obtain ⟨fuel, hf⟩ := h1
    obtain ⟨v, l, hcs, hr⟩ := open_ops hf
    simp [Value.cells] at hcs
    subst hcs
    exact ⟨l, hr⟩
  clear hA0 hval0
  refine (walk _ s0 _ l1 W w0 w1).mono fun e W' ⟨he, bel⟩ => ?_
  subst he
  exact ⟨_, rfl, _, _, _, [], _, [], hW', trodAll_mk1 (shut_bool Try.underlying4 _), (trodAll_cons_mk (Below.trod laidOut (by kernel_rfl) (of_decide_eq_true (by kernel_rfl)) k0 bel lt0) (trodAll_cons_mk (Below.trod laidOut (by kernel_rfl) (of_decide_eq_true (by kernel_rfl)) k1 bel lt1) trodAll_mk0)), rfl, bel.frame _, fun h => by cases h⟩

theorem over : Rows.objsStaysRow.holds Try.pinned (OpenSpec.ofChange Rows.objsStaysSpec) :=
  OpenClaim.holds_of_wide 6 Try.f6 rfl rfl rfl rfl rfl rfl rfl ⟨rfl, rfl, rfl, rfl, rfl⟩ rfl rfl rfl rfl rfl (by kernel_rfl) Try.func6 (by kernel_rfl)
    (of_decide_eq_true (by kernel_rfl)) (by unfold Func.isWrapper; first | (rw [if_pos (by decide +kernel)]; kernel_rfl) | (rw [if_neg (by decide +kernel)]; exact ⟨rfl, rfl⟩))
    (fun os started H enc _ => lifted os started H enc)

end Go.Proofs.Ytclankoffcfkfaa.objsStays
namespace Go.Proofs.Ytclankoffcfkfaa

theorem objsStays_holds : Rows.ObjsStaysSaid := objsStays.over

end Go.Proofs.Ytclankoffcfkfaa
