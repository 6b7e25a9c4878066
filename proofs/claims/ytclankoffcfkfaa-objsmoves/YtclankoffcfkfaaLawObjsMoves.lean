/- Proved: for all states and operations the law ObjsMoves answers true (and the call leaves all older memory as it was). No condition. -/
import Derived.Test.YtclankoffcfkfaaObjsSum
import Derived.OpenShut
import Derived.ChangeOld
namespace Go.Proofs.Ytclankoffcfkfaa.objsMoves
open Go.ChangeShapes Go.WideShapes Go.ChangeAt Go.RowKit

/-- Where the moves stand. -/
structure At (w : World) (N : Int) (wr : World) (vk : Value) (sk : St) : Prop where
  may : MayS sk
  kind : sk.kind = 5
  sum : sumP sk.L = N
  box : Bx wr w.heap.size #[.int .i64 sk.kind, vk, .bool sk.shut, .int .i64 sk.eng]
  rd : RdI wr vk sk.L
  ki : I64 sk.kind
  ei : I64 sk.eng
  apart : sk.L = [] ∨ ∀ b, vk.ownBlock = some b → b ≠ w.heap.size
  below : Below w.heap.size w wr

theorem At.next {w wr w5 : World} {N : Int} {vk v2 : Value} {sk : St} (h : At w N wr vk sk) {k' g' : Int} {L' : List Int} {s' : Bool} {n' : Int} {o : Opn} (hc : o.code = 9) (hst : stepS sk o = (⟨k', L', s', g'⟩, n'))
    (hr5 : RdI w5 v2 L') (hd : (v2 = vk ∧ L' = sk.L) ∨ ∀ b, v2.ownBlock = some b → wr.heap.size ≤ b) (hb5 : Below wr.heap.size wr w5) (hk : I64 k') (hg : I64 g') :
    At w N ((((w5.setCell ⟨w.heap.size, 0, none⟩ (.int .i64 k')).setCell ⟨w.heap.size, 1, none⟩ v2).setCell ⟨w.heap.size, 2, none⟩ (.bool s')).setCell ⟨w.heap.size, 3, none⟩ (.int .i64 g')) v2 ⟨k', L', s', g'⟩ := by
  have hlt := h.box.lt
  have hm := step_may h.may o
  have hs := step_move h.may h.kind o hc
  have hkd := step_kind sk o
  rw [hst] at hm hs hkd
  have hap : L' = [] ∨ ∀ b, v2.ownBlock = some b → b ≠ w.heap.size ∧ b ≠ w.heap.size := by
    rcases hd with ⟨rfl, hl⟩ | hd
    · rcases h.apart with ha | ha
      · exact .inl (hl.trans ha)
      · exact .inr fun b hb => ⟨ha b hb, ha b hb⟩
    · exact .inr fun b hb => by have := hd b hb; omega
  refine ⟨hm, hkd.trans h.kind, hs.1.trans h.sum, heap_four w5 _ _ _ _ _ _ (h.box.below hb5 (Nat.le_refl _)) _ _ _ _, hr5.but (R := w.heap.size) (T := w.heap.size) ((But.refl _ _ _).four _ (.inl rfl) _ _ _ _) hap, hk, hg, ?_, belowFour (h.below.trans (hb5.mono h.below.size)) w.heap.size (Nat.le_refl _) _ _ _ _⟩
  rcases hap with ha | ha
  · exact .inl ha
  · exact .inr fun b hb => (ha b hb).1

set_option maxRecDepth 100000 in
set_option maxHeartbeats 4000000 in
theorem walk (v : Value) (s : St) (vo : Value) (ops : List Opn) (w : World) (hs : StV w v s) (ho : RdO w vo ops) :
    Calls Try.prog 7 #[v, vo] w fun e w' => e = .returned (.bool true) ∧ Below w.heap.size w w' := by
  have HA := hide' (fun w => awakeO_any w)
  have HFW := hide' (fun w h => few_any v s w h)
  have HMY := hide' (fun w h => may_any v s w h)
  have HSV := hide' hs
  have HRO := hide' ho
  obtain ⟨vl, rfl, hr, hki, hei⟩ := hs
  have HR := hide' hr
  obtain ⟨ao, cap, rfl, -⟩ := hr
  obtain ⟨oa, ocap, rfl, hoc, hocm, -, -, hoa⟩ := ho
  have hol : (ops.length : Int) ≤ 9223372036854775807 := by unfold maxLen at hocm; omega
  have HOA := hide' hoa
  have H1 : Hid (∀ x, Below w.heap.size w (w.alloc x)) := fun x => (Below.refl _ _).alloc (Nat.le_refl _) x
  have S1 : Hid (∀ x, (w.alloc x).heap.size = w.heap.size + 1) := fun x => by simp
  have X1 : Hid (∀ cs, Bx (w.alloc (.cells cs 24)) w.heap.size cs) := fun cs => heap_alloc_new w _
  have HST := hide' (fun w1 v1 s1 o1 (h : StV w1 v1 s1) hk hl => step_plain v1 s1 o1 w1 h hk hl)
  have HSU := hide' (fun w1 v1 s1 h h1 h2 h3 => sumO_any v1 s1 w1 h h1 h2 h3)
  have HMA := hide' (fun w1 v1 s1 (h : StV w1 v1 s1) => may_any v1 s1 w1 h)
  have HSM := hide' (fun w1 va a vb b h1 h2 => sameS_any va a vb b w1 h1 h2)
  obtain ⟨kind, l, shut, g⟩ := s
  simp only at *
  have HKI := hide' hki
  have HEI := hide' hei
  clear hki hei hocm hoc hoa
  go_enter Try.func7, Try.ntmps7
  go_wp2_with fail
  refine (HA.out _).mono ?_
  rintro e w1 ⟨rfl, hb1⟩
  have hs1 := hb1.size
  rw [S1.out] at hs1
  have HX1 := hide' ((X1.out _).below hb1 (Nat.le_refl _))
  have HB1 := hide' ((H1.out _).trans (hb1.mono (by rw [S1.out]; omega)))
  clear hb1 HA X1
  obtain ⟨q0, q0'⟩ := HX1.out.cell 0
  obtain ⟨q1, q1'⟩ := HX1.out.cell 1
  obtain ⟨q2, q2'⟩ := HX1.out.cell 2
  obtain ⟨q3, q3'⟩ := HX1.out.cell 3
  go_wp2_with fail
  refine (HFW.out _ (HSV.out.below HB1.out (Nat.le_refl _))).mono ?_
  rintro e w2 ⟨rfl, hb2⟩
  have hs2 := hb2.size
  have HY1 := hide' (HX1.out.below hb2 (Nat.le_refl _))
  have HB2 := hide' (HB1.out.trans (hb2.mono HB1.out.size))
  clear hb2 HX1 q0 q1 q2 q3 q0' q1' q2' q3'
  obtain ⟨q0, q0'⟩ := HY1.out.cell 0
  obtain ⟨q1, q1'⟩ := HY1.out.cell 1
  obtain ⟨q2, q2'⟩ := HY1.out.cell 2
  obtain ⟨q3, q3'⟩ := HY1.out.cell 3
  by_cases hl : (l.length : Int) ≤ 300
  · rw [decide_eq_true hl]
    by_cases ho2 : (ops.length : Int) ≤ 200
    · by_cases hk5 : kind = 5
      · subst hk5
        go_wp2_with fail
        refine (HMY.out _ (HSV.out.below HB2.out (Nat.le_refl _))).mono ?_
        rintro e w3 ⟨rfl, hb3⟩
        have hs3 := hb3.size
        have HZ1 := hide' (HY1.out.below hb3 (Nat.le_refl _))
        have HB3 := hide' (HB2.out.trans (hb3.mono HB2.out.size))
        clear hb3 HY1 q0 q1 q2 q3 q0' q1' q2' q3' HMY HFW
        by_cases hm : MayS ⟨5, l, shut, g⟩
        · rw [decide_eq_true hm]
          obtain ⟨q0, q0'⟩ := HZ1.out.cell 0
          obtain ⟨q1, q1'⟩ := HZ1.out.cell 1
          obtain ⟨q2, q2'⟩ := HZ1.out.cell 2
          obtain ⟨q3, q3'⟩ := HZ1.out.cell 3
          go_wp2_with fail
          refine (HSU.out _ _ ⟨5, l, shut, g⟩ (HSV.out.below HB3.out (Nat.le_refl _)) (nums5 hm).1 (nums5 hm).2.1 (nums5 hm).2.2).mono ?_
          rintro e w4 ⟨rfl, hb4⟩
          have HZ4 := hide' (HZ1.out.below hb4 (Nat.le_refl _))
          have HB4 := hide' (HB3.out.trans (hb4.mono HB3.out.size))
          have HAT : Hid (At w (sumP l) w4 (.slice ao l.length cap) ⟨5, l, shut, g⟩) := ⟨hm, rfl, rfl, HZ4.out, HR.out.below HB4.out (Nat.le_refl _), HKI.out, HEI.out, (by
            rcases HR.out.block with h0 | ⟨_, b, hb, hlt⟩
            · exact .inl h0
            · exact .inr fun b' hb' => by rw [hb] at hb'; injection hb' with hb'; omega), HB4.out⟩
          generalize sumP l = N at *
          clear hb4 HZ1 q0 q1 q2 q3 q0' q1' q2' q3' hm HB1 HB2 HB3 HB4 HZ4
          go_wp2
          go_loopw [8] (fun i wr => ∃ (k : Nat) (vk : Value) (sk : St), i = .int .i64 (k : Int) ∧ k ≤ ops.length ∧ Hid (At w N wr vk sk)) (fun i _ => ops.length - (intOf i).toNat)
          case atStart => exact ⟨0, _, _, rfl, Nat.zero_le _, HAT⟩
          case round =>
            obtain ⟨k, vk, ⟨kk, Lk, shk, gk⟩, rfl, hkl, hat⟩ := hrel
            have hlt0 := hat.out.box.lt
            by_cases hlt : k < ops.length
            · rcases HOA.out with hoa | ⟨b0, off, rfl, hcs⟩
              · subst hoa; simp at hlt
              have hb0 : b0 < w.heap.size := World.block_lt_of_cell? w ⟨b0, off + k * 3, none⟩ (hcs k hlt).1
              obtain ⟨o0, o1, o2⟩ : wr.cell? ⟨b0, off + k * 3, none⟩ = some (.int .i64 (ops.getD k ⟨0, 0, 0⟩).code) ∧ wr.cell? ⟨b0, off + k * 3 + 1, none⟩ = some (.int .i64 (ops.getD k ⟨0, 0, 0⟩).a) ∧ wr.cell? ⟨b0, off + k * 3 + 2, none⟩ = some (.int .i64 (ops.getD k ⟨0, 0, 0⟩).b) := by
                obtain ⟨c0, c1, c2⟩ := hcs k hlt
                refine ⟨?_, ?_, ?_⟩
                · rw [hat.out.below.cell (p := ⟨b0, off + k * 3, none⟩) hb0]; exact c0
                · rw [hat.out.below.cell (p := ⟨b0, off + k * 3 + 1, none⟩) hb0]; exact c1
                · rw [hat.out.below.cell (p := ⟨b0, off + k * 3 + 2, none⟩) hb0]; exact c2
              generalize ops.getD k ⟨0, 0, 0⟩ = op at *
              obtain ⟨oc, oA, oB⟩ := op
              simp only at o0 o1 o2
              obtain ⟨ak, ck, rfl, -⟩ := id hat.out.rd
              obtain ⟨r, hrr⟩ : ∃ r, stepS ⟨kk, Lk, shk, gk⟩ ⟨9, oA, oB⟩ = r := ⟨_, rfl⟩
              obtain ⟨⟨k', L', s', g'⟩, n'⟩ := r
              have HNX := hide' (fun (w5 : World) (v2 : Value) hr5 hd hb5 hk hg => hat.out.next (w5 := w5) (v2 := v2) (o := ⟨9, oA, oB⟩) rfl hrr hr5 hd hb5 hk hg)
              have HMV := hide' (step_move hat.out.may hat.out.kind ⟨9, oA, oB⟩ rfl)
              have HM2 := hide' (step_may hat.out.may ⟨9, oA, oB⟩)
              have HK2 := hide' (step_kind ⟨kk, Lk, shk, gk⟩ ⟨9, oA, oB⟩)
              rw [hrr] at HMV HM2 HK2
              have HSTP : Hid (∀ W, Below wr.heap.size wr W → Calls Try.prog 11 #[.agg #[.int .i64 kk, .slice ak Lk.length ck, .bool shk, .int .i64 gk], .agg #[.int .i64 9, .int .i64 oA, .int .i64 oB]] W fun e w' => Stepped W (.slice ak Lk.length ck) Lk (⟨k', L', s', g'⟩, n') e w') := fun W hW => by
                have h := HST.out W (.agg #[.int .i64 kk, .slice ak Lk.length ck, .bool shk, .int .i64 gk]) ⟨kk, Lk, shk, gk⟩ ⟨9, oA, oB⟩ ⟨_, rfl, hat.out.rd.below hW (Nat.le_refl _), hat.out.ki, hat.out.ei⟩ (by have := hat.out.kind; omega) (Nat.le_trans (may_len hat.out.may) (by decide))
                rw [hrr] at h
                exact h
              have HBX := hide' hat.out.box
              have HSUM := hide' hat.out.sum
              have HBL := hide' hat.out.below
              have HSK : Hid (StV wr (.agg #[.int .i64 kk, .slice ak Lk.length ck, .bool shk, .int .i64 gk]) ⟨kk, Lk, shk, gk⟩) := ⟨_, rfl, hat.out.rd, hat.out.ki, hat.out.ei⟩
              have HKK : Hid (kk = 5) := hat.out.kind
              obtain ⟨q0, q0'⟩ := HBX.out.cell 0
              obtain ⟨q1, q1'⟩ := HBX.out.cell 1
              obtain ⟨q2, q2'⟩ := HBX.out.cell 2
              obtain ⟨q3, q3'⟩ := HBX.out.cell 3
              have hk0 : (0 : Int) ≤ (k : Int) := by omega
              have hkI : (k : Int) < (ops.length : Int) := by omega
              have A1 : Hid (∀ X, Below wr.heap.size wr (wr.alloc X)) := fun X => (Below.refl _ _).alloc (Nat.le_refl _) X
              clear hcs hat hrr
              go_wp2_with fail
              refine (HSTP.out _ (A1.out _)).mono ?_
              intro e w2 h2
              obtain ⟨v2, rfl, hr2, hk2, hg2, hd2, hb2⟩ := h2
              obtain ⟨a2, c2, rfl, -⟩ := id hr2
              have hs2' : wr.heap.size + 1 ≤ w2.heap.size := by have h := hb2.size; simpa using h
              have hb2' : Below wr.heap.size wr w2 := (A1.out _).trans (hb2.mono (by simp))
              have HD2 : Hid ((Value.slice a2 L'.length c2 = Value.slice ak Lk.length ck ∧ L' = Lk) ∨ ∀ b, (Value.slice a2 L'.length c2).ownBlock = some b → wr.heap.size ≤ b) := by
                rcases hd2 with hd | hd
                · exact .inl hd
                · exact .inr fun b hb => by have h := hd b hb; simp at h; omega
              have HR2 := hide' hr2
              have HK2' := hide' hk2
              have HG2 := hide' hg2
              have HB2 := hide' hb2'
              have HBX2 := hide' (HBX.out.below hb2' (Nat.le_refl _))
              have HSK2 := hide' (HSK.out.below hb2' (Nat.le_refl _))
              clear hr2 hk2 hg2 hd2 hb2 hb2' q0 q1 q2 q3 q0' q1' q2' q3' o0 o1 o2 HSTP HSK HBX A1
              have A2 : Hid (∀ X, Below w2.heap.size w2 (w2.alloc X)) := fun X => (Below.refl _ _).alloc (Nat.le_refl _) X
              have HKF : Hid (k' = 5) := HK2.out.trans HKK.out
              have HN5 : Hid (L'.length % 2 = 0 ∧ L'.length ≤ 128 ∧ ∀ x ∈ L', 0 ≤ x ∧ x ≤ 1099511627776) := by
                have h := HM2.out
                have e := HKF.out
                subst e
                exact nums5 h
              go_wp2_with fail
              refine (HSU.out _ _ ⟨k', L', s', g'⟩ ⟨_, rfl, HR2.out.below (A2.out _) (Nat.le_refl _), HK2'.out, HG2.out⟩ HN5.out.1 HN5.out.2.1 HN5.out.2.2).mono ?_
              rintro e w3 ⟨rfl, hb3⟩
              have esum : sumP L' = N := HMV.out.1.trans HSUM.out
              rw [esum]
              have hb3' : Below w2.heap.size w2 w3 := (A2.out _).trans (hb3.mono (by simp))
              have hs3' : w2.heap.size + 1 ≤ w3.heap.size := by have h := hb3.size; simpa using h
              have HT3 : Hid (Bx w3 w2.heap.size #[.int .i64 k', .slice a2 L'.length c2, .bool s', .int .i64 g']) := (hb3.block _ (by simp)).trans (heap_alloc_new w2 _)
              have HR3 := hide' (HR2.out.below hb3' (Nat.le_refl _))
              have HBX3 := hide' (HBX2.out.below hb3' (Nat.le_refl _))
              have HSK3 := hide' (HSK2.out.below hb3' (Nat.le_refl _))
              have HB3 := hide' (HB2.out.trans (hb3'.mono (by omega)))
              clear hb3 hb3' HR2 HBX2 HSK2 HB2 A2 esum
              obtain ⟨t0, t0'⟩ := HT3.out.cell 0
              obtain ⟨t1, t1'⟩ := HT3.out.cell 1
              obtain ⟨t2, t2'⟩ := HT3.out.cell 2
              obtain ⟨t3, t3'⟩ := HT3.out.cell 3
              go_wp2_with fail
              refine (HMA.out _ _ ⟨k', L', s', g'⟩ ⟨_, rfl, HR3.out, HK2'.out, HG2.out⟩).mono ?_
              rintro e w4 ⟨rfl, hb4⟩
              rw [decide_eq_true HM2.out]
              have hs4' := hb4.size
              have HT4 := hide' (HT3.out.below hb4 (Nat.le_refl _))
              have HR4 := hide' (HR3.out.below hb4 (Nat.le_refl _))
              have HBX4 := hide' (HBX3.out.below hb4 (Nat.le_refl _))
              have HSK4 := hide' (HSK3.out.below hb4 (Nat.le_refl _))
              have HB4 := hide' (HB3.out.trans (hb4.mono (by omega)))
              clear hb4 HT3 HR3 HBX3 HSK3 HB3 t0 t1 t2 t3 t0' t1' t2' t3'
              obtain ⟨t0, t0'⟩ := HT4.out.cell 0
              obtain ⟨t1, t1'⟩ := HT4.out.cell 1
              obtain ⟨t2, t2'⟩ := HT4.out.cell 2
              obtain ⟨t3, t3'⟩ := HT4.out.cell 3
              obtain ⟨q0, q0'⟩ := HBX4.out.cell 0
              obtain ⟨q1, q1'⟩ := HBX4.out.cell 1
              obtain ⟨q2, q2'⟩ := HBX4.out.cell 2
              obtain ⟨q3, q3'⟩ := HBX4.out.cell 3
              by_cases hn : n' = 1
              · have en : (n' != 1) = false := by rw [bne_eq_false_iff_eq]; exact hn
                clear hn HMV
                go_wp2
                go_roundw
                case rel => exact ⟨k + 1, _, _, by go_num, by omega, HNX.out w4 _ HR4.out HD2.out HB4.out HK2'.out HG2.out⟩
                case measure => simp [intOf]; omega
              · have en : (n' != 1) = true := by rw [bne_iff_ne]; exact hn
                have HEQ := hide' (HMV.out.2 hn)
                clear hn HMV
                go_wp2_with fail
                refine (HSM.out _ _ ⟨kk, Lk, shk, gk⟩ _ ⟨k', L', s', g'⟩ HSK4.out ⟨_, rfl, HR4.out, HK2'.out, HG2.out⟩).mono ?_
                rintro e w5 ⟨rfl, hb5⟩
                have hsame : SameS ⟨kk, Lk, shk, gk⟩ ⟨k', L', s', g'⟩ := by
                  have h := HEQ.out
                  rw [h]
                  exact sameS_refl _
                rw [decide_eq_true hsame]
                have HT5 := hide' (HT4.out.below hb5 (Nat.le_refl _))
                have HR5 := hide' (HR4.out.below hb5 (Nat.le_refl _))
                have HBX5 := hide' (HBX4.out.below hb5 (Nat.le_refl _))
                have HB5 := hide' (HB4.out.trans (hb5.mono (by omega)))
                clear hb5 hsame t0 t1 t2 t3 t0' t1' t2' t3' q0 q1 q2 q3 q0' q1' q2' q3' HT4 HR4 HBX4 HSK4 HB4
                obtain ⟨t0, t0'⟩ := HT5.out.cell 0
                obtain ⟨t1, t1'⟩ := HT5.out.cell 1
                obtain ⟨t2, t2'⟩ := HT5.out.cell 2
                obtain ⟨t3, t3'⟩ := HT5.out.cell 3
                obtain ⟨q0, q0'⟩ := HBX5.out.cell 0
                obtain ⟨q1, q1'⟩ := HBX5.out.cell 1
                obtain ⟨q2, q2'⟩ := HBX5.out.cell 2
                obtain ⟨q3, q3'⟩ := HBX5.out.cell 3
                go_wp2
                go_roundw
                case rel => exact ⟨k + 1, _, _, by go_num, by omega, HNX.out w5 _ HR5.out HD2.out HB5.out HK2'.out HG2.out⟩
                case measure => simp [intOf]; omega
            · have HB := hide' hat.out.below
              go_wp2
              go_ret
              exact ⟨rfl, HB.out⟩
        · rw [decide_eq_false hm]
          go_wp2
          go_ret
          exact ⟨rfl, HB3.out⟩
      · have ek : (kind != 5) = true := by rw [bne_iff_ne]; exact hk5
        clear hk5
        go_wp2
        go_ret
        exact ⟨rfl, HB2.out⟩
    · go_wp2
      go_ret
      exact ⟨rfl, HB2.out⟩
  · rw [decide_eq_false hl]
    go_wp2
    go_ret
    exact ⟨rfl, HB2.out⟩

theorem own : ownKnob Try.prog.godebug = none := by kernel_rfl
theorem laidOut : laidOutB Try.prog = true := by kernel_rfl

set_option linter.unusedVariables false in
set_option maxRecDepth 100000 in
theorem lifted (os : Os) (started : os.Started) (H : Type) (enc : TypeId × Value → H) :
    ReturnsInHanded {} Try.checked os 7 .any (Rows.objsMovesSpec.pre6 enc Try.prog Try.f7 Rows.objsMovesRow.domain false) (Rows.objsMovesSpec.post enc Try.prog Try.f7 false true false false) := by
  refine returnsInHanded_of_change (C := Try.checked) own started (by kernel_rfl) Try.func7
    (ChangeSpec.witness6 (enc := enc) (C := Try.checked) false ⟨#[], #[.agg #[.int .i64 0, .slice none 0 0, .bool false, .int .i64 0], .slice none 0 0], []⟩ 8 (by kernel_rfl) (by kernel_rfl) (by kernel_rfl) (by kernel_rfl)) ?_
  intro W base args ds gs before hval0 hW hcnd _
  have hval : ∀ (j : Nat) t v, Try.f7.params[j]? = some t → args[j]? = some v → Value.okWide Try.prog W .any base t v := hval0
  have hW' := hW
  obtain ⟨p, q, hA0, hV, rfl, hfz, hnd⟩ := hW
  have hA : DataW.TrodAll enc Try.prog W 0 (fun _ => true) true Try.f7.params.toList args.toList ds p := hA0
  rw [Try.params7] at hA hval
  obtain ⟨v0, vs0, d0, ds0, p0, q0, hargs, rfl, rfl, h0, r0⟩ := trodAll_cons hA
  obtain ⟨v1, vs1, d1, ds1, p1, q1, rfl, rfl, rfl, h1, r1⟩ := trodAll_cons r0
  obtain ⟨rfl, rfl, rfl⟩ := trodAll_nil r1
  obtain rfl : args = #[v0, v1] := by cases args; simp_all
  obtain ⟨rfl, rfl⟩ := trodVars_none hV
  have k0 := h0
  have lt0 : ∀ x ∈ p0, x.block < W.heap.size := by obtain ⟨m, hm⟩ := k0; exact DataW.trod_lt m _ _ _ hm
  obtain ⟨s0, w0⟩ := open_state (hval 0 24 v0 rfl rfl) h0
  obtain ⟨a1, len1, cap1, rfl⟩ := okWide_slice Try.underlying36 (hval 1 36 v1 rfl rfl)
  have k1 := h1
  have lt1 : ∀ x ∈ p1, x.block < W.heap.size := by obtain ⟨m, hm⟩ := k1; exact DataW.trod_lt m _ _ _ hm
  obtain ⟨l1, w1⟩ : ∃ l, RdO W (.slice a1 len1 cap1) l := by
    obtain ⟨fuel, hf⟩ := h1
    obtain ⟨v, l, hcs, hr⟩ := open_ops hf
    simp [Value.cells] at hcs
    subst hcs
    exact ⟨l, hr⟩
  clear hA0 hval0
  refine (walk _ s0 _ l1 W w0 w1).mono fun e W' ⟨he, bel⟩ => ?_
  subst he
  exact ⟨_, rfl, _, _, _, [], _, [], hW', trodAll_mk1 (shut_bool Try.underlying4 _), (trodAll_cons_mk (Below.trod laidOut (by kernel_rfl) (of_decide_eq_true (by kernel_rfl)) k0 bel lt0) (trodAll_cons_mk (Below.trod laidOut (by kernel_rfl) (of_decide_eq_true (by kernel_rfl)) k1 bel lt1) trodAll_mk0)), rfl, bel.frame _, fun h => by cases h⟩

theorem over : Rows.objsMovesRow.holds Try.pinned (OpenSpec.ofChange Rows.objsMovesSpec) :=
  OpenClaim.holds_of_wide 7 Try.f7 rfl rfl rfl rfl rfl rfl rfl ⟨rfl, rfl, rfl, rfl, rfl⟩ rfl rfl rfl rfl rfl (by kernel_rfl) Try.func7 (by kernel_rfl)
    (of_decide_eq_true (by kernel_rfl)) (by unfold Func.isWrapper; first | (rw [if_pos (by decide +kernel)]; kernel_rfl) | (rw [if_neg (by decide +kernel)]; exact ⟨rfl, rfl⟩))
    (fun os started H enc _ => lifted os started H enc)

end Go.Proofs.Ytclankoffcfkfaa.objsMoves
namespace Go.Proofs.Ytclankoffcfkfaa

theorem objsMoves_holds : Rows.ObjsMovesSaid := objsMoves.over

end Go.Proofs.Ytclankoffcfkfaa
