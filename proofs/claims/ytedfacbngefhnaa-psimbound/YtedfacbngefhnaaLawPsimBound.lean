/- Proved: for every state, every number of processes, every script and every process the law PsimBound answers true (and the call leaves all older memory as it was). No condition. -/
import Derived.Test.YtedfacbngefhnaaPsimLaw
import Derived.OpenShut
import Derived.ChangeOld
namespace Go.Proofs.Ytedfacbngefhnaa.psimBound
open Go.ChangeShapes Go.WideShapes Go.ChangeAt Go.RowKit

set_option maxRecDepth 100000 in
set_option maxHeartbeats 8000000 in
theorem walk (v : Value) (s : St) (procs : Int) (vl : Value) (l : List EvP) (p : Int) (w : World) (hs : StV w v s) (_hprm : (Lit.int .i64 procs).wf = true) (hl : RdV w vl l) (_hprp : (Lit.int .i64 p).wf = true) :
    Calls Try.prog 7 #[v, .int .i64 procs, vl, .int .i64 p] w fun e w' => e = .returned (.bool true) ∧ Below w.heap.size w w' := by
  have HS := hide hs
  have HL := hide hl
  obtain ⟨vs, rfl, hr, hki, hei⟩ := hs
  obtain ⟨la, lc, rfl, hlc, hcm, -⟩ := hl
  have hml : (l.length : Int) ≤ 9223372036854775807 := by unfold maxLen at hcm; omega
  clear hr hki hei hlc hcm
  have HB0 : Hid (Below w.heap.size w (w.alloc (.cells #[.int .i64 s.kind, vs, .bool s.shut, .int .i64 s.eng] 24))) := hide ((Below.refl _ _).alloc (Nat.le_refl _) _)
  have HX0 : Hid (Bk 24 (w.alloc (.cells #[.int .i64 s.kind, vs, .bool s.shut, .int .i64 s.eng] 24)) w.heap.size #[.int .i64 s.kind, vs, .bool s.shut, .int .i64 s.eng]) := hide (heap_alloc_new _ _)
  have HN0 : Hid (w.heap.size < (w.alloc (.cells #[.int .i64 s.kind, vs, .bool s.shut, .int .i64 s.eng] 24)).heap.size) := hide (by simp)
  go_enter Try.func7, Try.ntmps7
  go_wp2_with fail
  refine (awakeH_any _).mono ?_
  rintro e W1 ⟨rfl, hb1⟩
  have HX1 := hide (HX0.out.keep (hb1.block _ HN0.out))
  have HB1 := hide (HB0.out.trans (hb1.mono (Nat.le_of_lt HN0.out)))
  clear hb1 HX0 HB0 HN0
  obtain ⟨q0, q0'⟩ := HX1.out.cell 0 rfl
  obtain ⟨q1, q1'⟩ := HX1.out.cell 1 rfl
  obtain ⟨q2, q2'⟩ := HX1.out.cell 2 rfl
  obtain ⟨q3, q3'⟩ := HX1.out.cell 3 rfl
  go_wp2_with fail
  refine (fewV_any (HS.out.below HB1.out (Nat.le_refl _)) (HL.out.below HB1.out (Nat.le_refl _))).mono ?_
  rintro e W2 ⟨rfl, hb2⟩
  have HX2 := hide (HX1.out.keep (hb2.block _ HX1.out.lt))
  have HB2 := hide (HB1.out.trans (hb2.mono HB1.out.size))
  clear hb2 HX1 HB1 q0 q1 q2 q3 q0' q1' q2' q3'
  obtain ⟨ok, hok⟩ : ∃ ok, ok = (decide ((s.L.length : Int) ≤ 300) && decide ((l.length : Int) ≤ 1500)) := ⟨_, rfl⟩
  rw [← hok]
  have HOK : Hid (ok = true → l.length ≤ 1500) := hide (by intro h; rw [h] at hok; simp at hok; omega)
  clear hok
  obtain ⟨q0, q0'⟩ := HX2.out.cell 0 rfl
  obtain ⟨q1, q1'⟩ := HX2.out.cell 1 rfl
  obtain ⟨q2, q2'⟩ := HX2.out.cell 2 rfl
  obtain ⟨q3, q3'⟩ := HX2.out.cell 3 rfl
  go_wp2_with fail
  refine (newE_any (HS.out.below HB2.out (Nat.le_refl _)) procs).mono ?_
  rintro e W3 ⟨hb3, hr3⟩
  have HB3 := hide (HB2.out.trans (hb3.mono HB2.out.size))
  have HS2 := hide HB2.out.size
  clear hb3 HX2 HB2 q0 q1 q2 q3 q0' q1' q2' q3'
  by_cases hmay : MayS s ∧ 1 ≤ procs ∧ procs ≤ 64
  case neg =>
    rw [if_neg hmay] at hr3
    subst hr3
    clear hmay
    cases ok
    all_goals
      go_wp2
      go_ret
      exact ⟨rfl, HB3.out⟩
  rw [if_pos hmay] at hr3
  obtain ⟨eb, rfl, hE⟩ := hr3
  cases ok with
  | false =>
    go_wp2
    go_ret
    exact ⟨rfl, HB3.out⟩
  | true =>
    have hlen := HOK.out rfl
    obtain ⟨n, rfl⟩ : ∃ n : Nat, procs = (n : Int) := ⟨procs.toNat, by omega⟩
    rw [Int.toNat_natCast] at hE
    have hf : Fresh herlM n (newEg s n) := herlM_fresh hmay.1 (by omega)
    obtain ⟨M, hM⟩ : ∃ M, M = (bound12 n : Int) := ⟨_, rfl⟩
    have hm12 := bound12_le (n := n) (by omega)
    have hn64 : n ≤ 64 := by omega
    have HE0 := hide (hE.weaken (K' := fun k => k < w.heap.size) fun k hk => Nat.lt_of_lt_of_le hk HS2.out)
    have HMB : Hid (12 ≤ M ∧ M ≤ 50700) := hide (by have := bound12_ge n; omega)
    have hw1 : IntKind.i64.wrap ((n : Int) + 1) = (n : Int) + 1 := wrap_lit _ (by omega) (by omega)
    have hw2 : IntKind.i64.wrap (12 * ((n : Int) + 1)) = 12 * ((n : Int) + 1) := wrap_lit _ (by omega) (by omega)
    have hw3 : IntKind.i64.wrap (12 * ((n : Int) + 1) * ((n : Int) + 1)) = M := by
      rw [hm12.1, ← hM]
      have := HMB.out
      exact wrap_lit _ (by omega) (by omega)
    have HM := hide hM
    have HLE := hide hlen
    have HXA : Hid (∀ i, i < l.length → ∀ W, Below w.heap.size w W → ∃ b o, la = some ⟨b, o, none⟩ ∧ EAt W b (o + i * 5) (l.getD i ⟨0, 0, ⟨0, 0, 0⟩⟩)) := hide fun i hi W hW => by
      obtain ⟨x, b, o, h1, h2, h3⟩ := (HL.out.below hW (Nat.le_refl _)).at hi
      refine ⟨b, o, h2, ?_⟩
      rw [List.getD_eq_getElem?_getD, h1]
      exact h3
    have HN0 : Hid ((newEg s n).n = n) := hide rfl
    clear hE hf hlen hmay HOK hM hm12 HL HS HS2 hn64
    go_upto_region 7 with fail
    clear hw1 hw2 hw3
    go_wp2
    go_loopw [14] (fun vi wr => ∃ (i : Nat) (e : Eg), vi = .int .i64 (i : Int) ∧ i ≤ l.length ∧ Hid (EgM (fun k => k < w.heap.size) wr eb e (2 * i)) ∧ Hid (e.n = n) ∧ Hid (Below w.heap.size w wr)) (fun vi _ => l.length - (intOf vi).toNat)
    case atStart => exact ⟨0, _, rfl, Nat.zero_le _, HE0, HN0, HB3⟩
    case round =>
      obtain ⟨i, e, rfl, hi, HE, HEN, HB⟩ := hrel
      clear HE0 HN0 HB3
      by_cases hlt : i < l.length
      case neg =>
        obtain rfl : i = l.length := by omega
        have HBU := hide (busy_any HE.out p)
        have HSP := hide (steps_any HE.out (by have := HLE.out; omega) p)
        clear HXA hi hlt
        cases hbz : herlM.isBusy e p with
        | false =>
          rw [hbz] at HBU
          go_wp2_with fail
          refine HBU.out.mono ?_
          rintro r W' ⟨rfl, rfl⟩
          go_wp2
          go_ret
          exact ⟨rfl, HB.out⟩
        | true =>
          rw [hbz] at HBU
          have HBZ := hide hbz
          clear hbz
          go_wp2_with fail
          refine HBU.out.mono ?_
          rintro r W' ⟨rfl, rfl⟩
          go_wp2_with fail
          refine HSP.out.mono ?_
          rintro r W' ⟨rfl, hb'⟩
          have HB' := hide (HB.out.trans (hb'.mono HB.out.size))
          have HE' := hide (HE.out.below hb')
          have hsm := stepsOf_most herlM_bd HE.out.mod p
          obtain ⟨k0, hk0⟩ : ∃ k0 : Nat, herlM.stepsOf e p = (k0 : Int) := ⟨(herlM.stepsOf e p).toNat, by omega⟩
          have hk50 : k0 ≤ 50700 := by
            have h2 : herlM.n e = n := HEN.out
            rw [h2, ← HM.out, hk0] at hsm
            have := HMB.out
            omega
          have HPR : Hid (e.n = n ∧ herlM.isBusy e p = true ∧ herlM.stepsOf e p = (k0 : Int)) := hide ⟨HEN.out, HBZ.out, hk0⟩
          have HEK : Hid (EgM (fun k => k < w.heap.size) _ eb e (3000 + 2 * k0)) := hide (HE'.out.mono (by have := HLE.out; omega))
          rw [hk0]
          clear hb' HB HE HE' hsm hk0 HEN HBZ HBU HSP
          go_wp2
          go_loopw [17] (fun vk W => ∃ (k : Nat) (e : Eg), vk = .int .i64 (k : Int) ∧ k ≤ 50700 ∧ Hid (EgM (fun k => k < w.heap.size) W eb e (3000 + 2 * k)) ∧ Hid (e.n = n ∧ herlM.isBusy e p = true ∧ herlM.stepsOf e p = (k : Int)) ∧ Hid (Below w.heap.size w W)) (fun vk _ => 50700 - (intOf vk).toNat)
          case atStart => exact ⟨k0, e, rfl, hk50, HEK, HPR, HB'⟩
          case round =>
            obtain ⟨k, e, rfl, hk, HE, HP, HB⟩ := hrel
            clear HEK HPR HB' hk50
            have hkM : (k : Int) < M := by
              have h1 := (stepsOf_most herlM_bd HE.out.mod p).2.2 HP.out.2.1
              have h2 : herlM.n e = n := HP.out.1
              rw [h2, HP.out.2.2, ← HM.out] at h1
              exact h1
            have HI := hide (step_anyE HE.out (fun k hk => Nat.lt_of_lt_of_le hk HB.out.size) (by omega) p)
            have HBS := hide (busy_step HE.out.mod HP.out.1 HP.out.2.1)
            have hkm2 := HMB.out
            have HST := hide HP.out.2.2
            unfold Stept at HI
            obtain ⟨⟨e2, x2, d2⟩, hr2⟩ : ∃ r, r = herlM.step e p := ⟨_, rfl⟩
            rw [← hr2] at HI HBS
            dsimp only at HI HBS
            go_wp2_with fail
            refine HI.out.mono ?_
            rintro r W2 ⟨rfl, hm2, ho2⟩
            have HB2 := hide (HB.out.trans (onlyBH ho2 HB.out.size))
            have HM2 := hide hm2
            clear hm2 ho2 hr2 HI
            rcases HBS.out with hd | ⟨hd, hb, hs, hn⟩
            · subst hd
              go_wp2
              go_ret
              exact ⟨rfl, HB2.out⟩
            · subst hd
              have HP2 : Hid (e2.n = n ∧ herlM.isBusy e2 p = true ∧ herlM.stepsOf e2 p = ((k + 1 : Nat) : Int)) := hide ⟨hn, hb, by rw [hs, HST.out]; omega⟩
              have HM3 := hide (HM2.out.mono (show 3000 + 2 * k + 2 ≤ 3000 + 2 * (k + 1) by omega))
              clear hb hs hn
              go_wp2
              go_roundw
              case rel => exact ⟨k + 1, e2, by go_num, by omega, HM3, HP2, HB2⟩
              case measure => simp [intOf]; omega
      have hil : (i : Int) < (l.length : Int) := by omega
      obtain ⟨lb, lo, rfl, hx0⟩ := HXA.out i hlt wr HB.out
      have HXI : Hid (∀ W, Below w.heap.size w W → EAt W lb (lo + i * 5) (l.getD i ⟨0, 0, ⟨0, 0, 0⟩⟩)) := hide fun W hW => by
        obtain ⟨b, o, h1, h2⟩ := HXA.out i hlt W hW
        obtain ⟨rfl, rfl⟩ : lb = b ∧ lo = o := by simpa using h1
        exact h2
      have HLT := hide hlt
      have HX2 := HXA
      clear HXA hx0 hlt hi
      have HXA := HXI
      clear HXI
      generalize l.getD i ⟨0, 0, ⟨0, 0, 0⟩⟩ = x at *
      have HTO := hide (fun (e2 : Eg) (V : Int) (h2 : evE herlM e x = e2) (hV : wasE herlM e x = V) (W : World) (N' : Nat) (hEW : EgM (fun k => k < w.heap.size) W eb e2 N') (hN : N' ≤ 2 * (i + 1)) (hb : Below w.heap.size w W) => TailB.of HE.out.mod HEN.out h2 hV HM.out hEW hN hb)
      obtain ⟨kind, p2, ⟨co, xa, xb⟩⟩ := x
      obtain ⟨S, hS⟩ : ∃ S, S = herlM.stepsOf e p2 := ⟨_, rfl⟩
      obtain ⟨U, hU⟩ : ∃ U, U = herlM.isBusy e p2 := ⟨_, rfl⟩
      have HSP := hide (steps_any HE.out (by have h1 := HLT.out; have h2 := HLE.out; omega) p2)
      rw [← hS] at HSP
      have HSR : Hid (0 ≤ S ∧ S ≤ M) := hide (by
        have h1 := stepsOf_most herlM_bd HE.out.mod p2
        have h2 : herlM.n e = n := HEN.out
        rw [h2, ← hS, ← HM.out] at h1
        exact ⟨h1.1, h1.2.1⟩)
      obtain ⟨c0, c1, -⟩ := HXA.out wr HB.out
      dsimp only at c0 c1 HTO
      have HS := hide hS
      have HU := hide hU
      clear hS hU
      go_wp2_with fail
      refine HSP.out.mono ?_
      rintro r W1 ⟨rfl, hb1⟩
      have HE1 := hide (HE.out.below hb1)
      have HB1 := hide (HB.out.trans (hb1.mono HB.out.size))
      have HBU := hide (busy_any HE1.out p2)
      rw [← HU.out] at HBU
      clear hb1 HSP c0 c1
      obtain ⟨c0, c1, c2, c3, c4, -⟩ := HXA.out W1 HB1.out
      dsimp only at c0 c1 c2 c3 c4
      go_wp2_with fail
      refine HBU.out.mono ?_
      rintro r W1 ⟨rfl, rfl⟩
      clear HBU
      have HKW : Hid (∀ m k, k < w.heap.size → k < (W1.drewN m).heap.size) := hide fun m k hk => Nat.lt_of_lt_of_le hk HB1.out.size
      have hN2 : 2 * i ≤ 150000 := by have h1 := HLT.out; have h2 := HLE.out; omega
      by_cases hk0 : kind = 0
      · subst hk0
        have HI := hide (fun m => invoke_any (HE1.out.below (below_drewN (Below.refl _ _) m)) (HKW.out m) hN2 p2 ⟨co, xa, xb⟩)
        unfold opV at HI
        dsimp only at HI
        have HEV : Hid (evE herlM e ⟨0, p2, ⟨co, xa, xb⟩⟩ = (herlM.invoke e p2 ⟨co, xa, xb⟩).1) := hide (if_pos rfl)
        have HWV : Hid (wasE herlM e ⟨0, p2, ⟨co, xa, xb⟩⟩ = if (herlM.invoke e p2 ⟨co, xa, xb⟩).2 = 0 then 0 else S) := hide (by unfold wasE; rw [if_pos rfl, HS.out])
        obtain ⟨rr, hrr⟩ : ∃ rr, rr = (herlM.invoke e p2 ⟨co, xa, xb⟩).2 := ⟨_, rfl⟩
        unfold Invoked at HI
        rw [← hrr] at HI HWV
        clear hrr
        have HKP : Hid (∀ W, Below w.heap.size w W → W.cell? ⟨lb, lo + i * 5, none⟩ = some (.int .i64 0) ∧ W.cell? ⟨lb, lo + i * 5 + 1, none⟩ = some (.int .i64 p2) ∧ W.cell? ⟨lb, lo + i * 5 + 2, none⟩ = some (.int .i64 co) ∧ W.cell? ⟨lb, lo + i * 5 + 3, none⟩ = some (.int .i64 xa) ∧ W.cell? ⟨lb, lo + i * 5 + 4, none⟩ = some (.int .i64 xb)) := hide fun W h => by
          obtain ⟨d0, d1, d2, d3, d4, -⟩ := HXA.out W h
          exact ⟨d0, d1, d2, d3, d4⟩
        go_upto_region 12 with fail
        go_region_held (fun W => W.cell? ⟨lb, lo + i * 5, none⟩ = some (.int .i64 0) ∧ W.cell? ⟨lb, lo + i * 5 + 1, none⟩ = some (.int .i64 p2) ∧ W.cell? ⟨lb, lo + i * 5 + 2, none⟩ = some (.int .i64 co) ∧ W.cell? ⟨lb, lo + i * 5 + 3, none⟩ = some (.int .i64 xa) ∧ W.cell? ⟨lb, lo + i * 5 + 4, none⟩ = some (.int .i64 xb))
          (first | (with_reducible refine HKP.out _ ?_; first | (with_reducible exact HB1.out) | (with_reducible exact HB1.out.drew) | (with_reducible exact HB2.out)))
          (first | (go_at_call 16; refine (HI.out 1).mono ?_; rintro r W2 ⟨rfl, hm2, ho2⟩; have HE2 := hide hm2; have HB2 := hide ((below_drewN HB1.out 1).trans (onlyBH ho2 (below_drewN HB1.out 1).size)); clear hm2 ho2 HI))
        all_goals
          clear c0 c1 c2 c3 c4
          have c0 := (HXA.out W2 HB2.out).c0
          dsimp only at c0
          by_cases h0 : rr = 0
          · have hr0 : (rr == 0) = true := by rw [beq_iff_eq]; exact h0
            have HT : Hid (TailB w eb n (2 * (i + 1)) M p2 0 _ W2) := hide (HTO.out _ _ HEV.out (by rw [HWV.out, if_pos h0]) _ _ HE2.out (by omega) HB2.out)
            clear h0
            have HST := hide (HT.out.steps (by have h1 := HLT.out; have h2 := HLE.out; omega))
            have HBY := hide HT.out.busy
            have gV : decide (0 > M) = false := decide_eq_false (by have h1 := HT.out.v1; omega)
            have c1 := (HXA.out W2 HT.out.below).c1
            dsimp only at c1
            by_cases hVM : 0 = M
            · have HBZ := hide (HBY.out hVM)
              have eV : (0 == M) = true := by rw [beq_iff_eq]; exact hVM
              clear hVM HBY
              go_wp2_with fail
              refine (HST.out _ ?_).mono ?_
              · first | exact Below.refl _ _ | exact below_drewN (Below.refl _ _) _ | exact (Below.refl _ _).drew
              rintro r W8 ⟨rfl, hb8⟩
              have HT8 := hide (HT.out.later hb8)
              have HBZ8 := hide (HBZ.out W8 hb8)
              have c1' := (HXA.out W8 HT8.out.below).c1
              dsimp only at c1'
              clear c1 hb8 HST HBZ
              go_wp2_with fail
              refine HBZ8.out.mono ?_
              rintro r W9 ⟨rfl, hb9⟩
              have HT9 := hide (HT.out.later hb9)
              clear hb9 HBZ8
              go_wp2
              go_roundw
              case rel => exact ⟨i + 1, _, by go_num, by have := HLT.out; omega, hide HT9.out.eng, hide HT9.out.n, hide HT9.out.below⟩
              case measure => have := HLT.out; simp [intOf]; omega
            · have eV : (0 == M) = false := by rw [beq_eq_false_iff_ne]; exact hVM
              clear hVM HBY
              go_wp2_with fail
              refine (HST.out _ ?_).mono ?_
              · first | exact Below.refl _ _ | exact below_drewN (Below.refl _ _) _ | exact (Below.refl _ _).drew
              rintro r W8 ⟨rfl, hb8⟩
              have HT8 := hide (HT.out.later hb8)
              clear hb8 HST
              go_wp2
              go_roundw
              case rel => exact ⟨i + 1, _, by go_num, by have := HLT.out; omega, hide HT8.out.eng, hide HT8.out.n, hide HT8.out.below⟩
              case measure => have := HLT.out; simp [intOf]; omega
          · have hr0 : (rr == 0) = false := by rw [beq_eq_false_iff_ne]; exact h0
            have HT : Hid (TailB w eb n (2 * (i + 1)) M p2 S _ W2) := hide (HTO.out _ _ HEV.out (by rw [HWV.out, if_neg h0]) _ _ HE2.out (by omega) HB2.out)
            clear h0
            have HST := hide (HT.out.steps (by have h1 := HLT.out; have h2 := HLE.out; omega))
            have HBY := hide HT.out.busy
            have gV : decide (S > M) = false := decide_eq_false (by have h1 := HT.out.v1; omega)
            have c1 := (HXA.out W2 HT.out.below).c1
            dsimp only at c1
            by_cases hVM : S = M
            · have HBZ := hide (HBY.out hVM)
              have eV : (S == M) = true := by rw [beq_iff_eq]; exact hVM
              clear hVM HBY
              go_wp2_with fail
              refine (HST.out _ ?_).mono ?_
              · first | exact Below.refl _ _ | exact below_drewN (Below.refl _ _) _ | exact (Below.refl _ _).drew
              rintro r W8 ⟨rfl, hb8⟩
              have HT8 := hide (HT.out.later hb8)
              have HBZ8 := hide (HBZ.out W8 hb8)
              have c1' := (HXA.out W8 HT8.out.below).c1
              dsimp only at c1'
              clear c1 hb8 HST HBZ
              go_wp2_with fail
              refine HBZ8.out.mono ?_
              rintro r W9 ⟨rfl, hb9⟩
              have HT9 := hide (HT.out.later hb9)
              clear hb9 HBZ8
              go_wp2
              go_roundw
              case rel => exact ⟨i + 1, _, by go_num, by have := HLT.out; omega, hide HT9.out.eng, hide HT9.out.n, hide HT9.out.below⟩
              case measure => have := HLT.out; simp [intOf]; omega
            · have eV : (S == M) = false := by rw [beq_eq_false_iff_ne]; exact hVM
              clear hVM HBY
              go_wp2_with fail
              refine (HST.out _ ?_).mono ?_
              · first | exact Below.refl _ _ | exact below_drewN (Below.refl _ _) _ | exact (Below.refl _ _).drew
              rintro r W8 ⟨rfl, hb8⟩
              have HT8 := hide (HT.out.later hb8)
              clear hb8 HST
              go_wp2
              go_roundw
              case rel => exact ⟨i + 1, _, by go_num, by have := HLT.out; omega, hide HT8.out.eng, hide HT8.out.n, hide HT8.out.below⟩
              case measure => have := HLT.out; simp [intOf]; omega
      · have hk0' : (kind == 0) = false := by rw [beq_eq_false_iff_ne]; exact hk0
        by_cases hk1 : kind = 1
        · subst hk1
          have HI := hide (fun m => step_anyE (HE1.out.below (below_drewN (Below.refl _ _) m)) (HKW.out m) hN2 p2)
          have HEV : Hid (evE herlM e ⟨1, p2, ⟨co, xa, xb⟩⟩ = (herlM.step e p2).1) := hide (by unfold evE; rw [if_neg (show ¬ (1 : Int) = 0 by decide), if_pos rfl])
          have HWV : Hid (wasE herlM e ⟨1, p2, ⟨co, xa, xb⟩⟩ = if U = true then S + 1 else S) := hide (by unfold wasE; rw [if_neg (show ¬ (1 : Int) = 0 by decide), if_pos rfl, HS.out, HU.out])
          unfold Stept at HI
          clear hk0
          go_upto_region 12 with fail
          go_quiet (fail)
          go_wp2_with fail
          refine (HI.out _).mono ?_
          rintro r W2 ⟨rfl, hm2, ho2⟩
          have HE2 := hide hm2
          have HB2 := hide ((below_drewN HB1.out _).trans (onlyBH ho2 (below_drewN HB1.out _).size))
          clear hm2 ho2 HI c0 c1 c2 c3 c4
          cases U with
          | true =>
            have HT : Hid (TailB w eb n (2 * (i + 1)) M p2 (S + 1) _ W2) := hide (HTO.out _ _ HEV.out (by rw [HWV.out, if_pos rfl]) _ _ HE2.out (by omega) HB2.out)
            have hwS : IntKind.i64.wrap (S + 1) = S + 1 := wrap_lit _ (by have := HSR.out; omega) (by have h1 := HSR.out; have h2 := HMB.out; omega)
            have HSR := HSR
            have HST := hide (HT.out.steps (by have h1 := HLT.out; have h2 := HLE.out; omega))
            have HBY := hide HT.out.busy
            have gV : decide ((S + 1) > M) = false := decide_eq_false (by have h1 := HT.out.v1; omega)
            have c1 := (HXA.out W2 HT.out.below).c1
            dsimp only at c1
            by_cases hVM : (S + 1) = M
            · have HBZ := hide (HBY.out hVM)
              have eV : ((S + 1) == M) = true := by rw [beq_iff_eq]; exact hVM
              clear hVM HBY
              go_wp2_with fail
              refine (HST.out _ ?_).mono ?_
              · first | exact Below.refl _ _ | exact below_drewN (Below.refl _ _) _ | exact (Below.refl _ _).drew
              rintro r W8 ⟨rfl, hb8⟩
              have HT8 := hide (HT.out.later hb8)
              have HBZ8 := hide (HBZ.out W8 hb8)
              have c1' := (HXA.out W8 HT8.out.below).c1
              dsimp only at c1'
              clear c1 hb8 HST HBZ
              go_wp2_with fail
              refine HBZ8.out.mono ?_
              rintro r W9 ⟨rfl, hb9⟩
              have HT9 := hide (HT.out.later hb9)
              clear hb9 HBZ8
              go_wp2
              go_roundw
              case rel => exact ⟨i + 1, _, by go_num, by have := HLT.out; omega, hide HT9.out.eng, hide HT9.out.n, hide HT9.out.below⟩
              case measure => have := HLT.out; simp [intOf]; omega
            · have eV : ((S + 1) == M) = false := by rw [beq_eq_false_iff_ne]; exact hVM
              clear hVM HBY
              go_wp2_with fail
              refine (HST.out _ ?_).mono ?_
              · first | exact Below.refl _ _ | exact below_drewN (Below.refl _ _) _ | exact (Below.refl _ _).drew
              rintro r W8 ⟨rfl, hb8⟩
              have HT8 := hide (HT.out.later hb8)
              clear hb8 HST
              go_wp2
              go_roundw
              case rel => exact ⟨i + 1, _, by go_num, by have := HLT.out; omega, hide HT8.out.eng, hide HT8.out.n, hide HT8.out.below⟩
              case measure => have := HLT.out; simp [intOf]; omega
          | false =>
            have HT : Hid (TailB w eb n (2 * (i + 1)) M p2 S _ W2) := hide (HTO.out _ _ HEV.out (by rw [HWV.out, if_neg (by decide)]) _ _ HE2.out (by omega) HB2.out)
            have HST := hide (HT.out.steps (by have h1 := HLT.out; have h2 := HLE.out; omega))
            have HBY := hide HT.out.busy
            have gV : decide (S > M) = false := decide_eq_false (by have h1 := HT.out.v1; omega)
            have c1 := (HXA.out W2 HT.out.below).c1
            dsimp only at c1
            by_cases hVM : S = M
            · have HBZ := hide (HBY.out hVM)
              have eV : (S == M) = true := by rw [beq_iff_eq]; exact hVM
              clear hVM HBY
              go_wp2_with fail
              refine (HST.out _ ?_).mono ?_
              · first | exact Below.refl _ _ | exact below_drewN (Below.refl _ _) _ | exact (Below.refl _ _).drew
              rintro r W8 ⟨rfl, hb8⟩
              have HT8 := hide (HT.out.later hb8)
              have HBZ8 := hide (HBZ.out W8 hb8)
              have c1' := (HXA.out W8 HT8.out.below).c1
              dsimp only at c1'
              clear c1 hb8 HST HBZ
              go_wp2_with fail
              refine HBZ8.out.mono ?_
              rintro r W9 ⟨rfl, hb9⟩
              have HT9 := hide (HT.out.later hb9)
              clear hb9 HBZ8
              go_wp2
              go_roundw
              case rel => exact ⟨i + 1, _, by go_num, by have := HLT.out; omega, hide HT9.out.eng, hide HT9.out.n, hide HT9.out.below⟩
              case measure => have := HLT.out; simp [intOf]; omega
            · have eV : (S == M) = false := by rw [beq_eq_false_iff_ne]; exact hVM
              clear hVM HBY
              go_wp2_with fail
              refine (HST.out _ ?_).mono ?_
              · first | exact Below.refl _ _ | exact below_drewN (Below.refl _ _) _ | exact (Below.refl _ _).drew
              rintro r W8 ⟨rfl, hb8⟩
              have HT8 := hide (HT.out.later hb8)
              clear hb8 HST
              go_wp2
              go_roundw
              case rel => exact ⟨i + 1, _, by go_num, by have := HLT.out; omega, hide HT8.out.eng, hide HT8.out.n, hide HT8.out.below⟩
              case measure => have := HLT.out; simp [intOf]; omega
        · have hk1' : (kind == 1) = false := by rw [beq_eq_false_iff_ne]; exact hk1
          have HT : Hid (TailB w eb n (2 * (i + 1)) M p2 S _ W1) := hide (HTO.out e S (by unfold evE; rw [if_neg hk0, if_neg hk1]) (by unfold wasE; rw [if_neg hk0, if_neg hk1, HS.out]) _ _ HE1.out (by omega) HB1.out)
          clear hk0 hk1
          go_upto_region 12 with fail
          go_quiet (fail)
          have HST := hide (HT.out.steps (by have h1 := HLT.out; have h2 := HLE.out; omega))
          have HBY := hide HT.out.busy
          have gV : decide (S > M) = false := decide_eq_false (by have h1 := HT.out.v1; omega)
          have c1 := (HXA.out W1 HT.out.below).c1
          dsimp only at c1
          by_cases hVM : S = M
          · have HBZ := hide (HBY.out hVM)
            have eV : (S == M) = true := by rw [beq_iff_eq]; exact hVM
            clear hVM HBY
            go_wp2_with fail
            refine (HST.out _ ?_).mono ?_
            · first | exact Below.refl _ _ | exact below_drewN (Below.refl _ _) _ | exact (Below.refl _ _).drew
            rintro r W8 ⟨rfl, hb8⟩
            have HT8 := hide (HT.out.later hb8)
            have HBZ8 := hide (HBZ.out W8 hb8)
            have c1' := (HXA.out W8 HT8.out.below).c1
            dsimp only at c1'
            clear c1 hb8 HST HBZ
            go_wp2_with fail
            refine HBZ8.out.mono ?_
            rintro r W9 ⟨rfl, hb9⟩
            have HT9 := hide (HT.out.later hb9)
            clear hb9 HBZ8
            go_wp2
            go_roundw
            case rel => exact ⟨i + 1, _, by go_num, by have := HLT.out; omega, hide HT9.out.eng, hide HT9.out.n, hide HT9.out.below⟩
            case measure => have := HLT.out; simp [intOf]; omega
          · have eV : (S == M) = false := by rw [beq_eq_false_iff_ne]; exact hVM
            clear hVM HBY
            go_wp2_with fail
            refine (HST.out _ ?_).mono ?_
            · first | exact Below.refl _ _ | exact below_drewN (Below.refl _ _) _ | exact (Below.refl _ _).drew
            rintro r W8 ⟨rfl, hb8⟩
            have HT8 := hide (HT.out.later hb8)
            clear hb8 HST
            go_wp2
            go_roundw
            case rel => exact ⟨i + 1, _, by go_num, by have := HLT.out; omega, hide HT8.out.eng, hide HT8.out.n, hide HT8.out.below⟩
            case measure => have := HLT.out; simp [intOf]; omega

theorem own : ownKnob Try.prog.godebug = none := by kernel_rfl
theorem laidOut : laidOutB Try.prog = true := by kernel_rfl

set_option linter.unusedVariables false in
set_option maxRecDepth 100000 in
theorem lifted (os : Os) (started : os.Started) (H : Type) (enc : TypeId × Value → H) :
    ReturnsInHanded {} Try.checked os 7 .any (Rows.psimBoundSpec.pre6 enc Try.prog Try.f7 Rows.psimBoundRow.domain false) (Rows.psimBoundSpec.post enc Try.prog Try.f7 false true false false) := by
  refine returnsInHanded_of_change (C := Try.checked) own started (by kernel_rfl) Try.func7
    (ChangeSpec.witness6 (enc := enc) (C := Try.checked) false ⟨#[], #[.agg #[.int .i64 0, .slice none 0 0, .bool false, .int .i64 0], .int .i64 0, .slice none 0 0, .int .i64 0], []⟩ 8 (by kernel_rfl) (by kernel_rfl) (by kernel_rfl) (by kernel_rfl)) ?_
  intro W base args ds gs before hval0 hW hcnd _
  have hval : ∀ (j : Nat) t v, Try.f7.params[j]? = some t → args[j]? = some v → Value.okWide Try.prog W .any base t v := hval0
  have hW' := hW
  obtain ⟨p, q, hA0, hV, rfl, hfz, hnd⟩ := hW
  have hA : DataW.TrodAll enc Try.prog W 0 (fun _ => true) true Try.f7.params.toList args.toList ds p := hA0
  rw [Try.params7] at hA hval
  obtain ⟨v0, vs0, d0, ds0, p0, q0, hargs, rfl, rfl, h0, r0⟩ := trodAll_cons hA
  obtain ⟨v1, vs1, d1, ds1, p1, q1, rfl, rfl, rfl, h1, r1⟩ := trodAll_cons r0
  obtain ⟨v2, vs2, d2, ds2, p2, q2, rfl, rfl, rfl, h2, r2⟩ := trodAll_cons r1
  obtain ⟨v3, vs3, d3, ds3, p3, q3, rfl, rfl, rfl, h3, r3⟩ := trodAll_cons r2
  obtain ⟨rfl, rfl, rfl⟩ := trodAll_nil r3
  obtain rfl : args = #[v0, v1, v2, v3] := by cases args; simp_all
  obtain ⟨rfl, rfl⟩ := trodVars_none hV
  have k0 := h0
  have lt0 : ∀ x ∈ p0, x.block < W.heap.size := by obtain ⟨m, hm⟩ := k0; exact DataW.trod_lt m _ _ _ hm
  obtain ⟨s0, w0⟩ := open_state (hval 0 24 v0 rfl rfl) h0
  obtain ⟨a1, rfl, rfl, rfl, w1⟩ := open_int Try.underlying3 (hval 1 3 v1 rfl rfl) h1
  obtain ⟨a2, len2, cap2, rfl⟩ := okWide_slice Try.underlying44 (hval 2 44 v2 rfl rfl)
  have k2 := h2
  have lt2 : ∀ x ∈ p2, x.block < W.heap.size := by obtain ⟨m, hm⟩ := k2; exact DataW.trod_lt m _ _ _ hm
  obtain ⟨l2, w2⟩ : ∃ l, RdV W (.slice a2 len2 cap2) l := by
    obtain ⟨fuel, hf⟩ := h2
    obtain ⟨v, l, hcs, hr⟩ := open_evs hf
    simp [Value.cells] at hcs
    subst hcs
    exact ⟨l, hr⟩
  obtain ⟨a3, rfl, rfl, rfl, w3⟩ := open_int Try.underlying3 (hval 3 3 v3 rfl rfl) h3
  clear hA0 hval0
  refine (walk _ s0 a1 _ l2 a3 W w0 w1 w2 w3).mono fun e W' ⟨he, bel⟩ => ?_
  subst he
  exact ⟨_, rfl, _, _, _, [], _, [], hW', trodAll_mk1 (shut_bool Try.underlying4 _), (trodAll_cons_mk (Below.trod laidOut (by kernel_rfl) (of_decide_eq_true (by kernel_rfl)) k0 bel lt0) (trodAll_cons_mk (shut_int Try.underlying3 w1) (trodAll_cons_mk (Below.trod laidOut (by kernel_rfl) (of_decide_eq_true (by kernel_rfl)) k2 bel lt2) (trodAll_cons_mk (shut_int Try.underlying3 w3) trodAll_mk0)))), rfl, bel.frame _, fun h => by cases h⟩

theorem over : Rows.psimBoundRow.holds Try.pinned (OpenSpec.ofChange Rows.psimBoundSpec) :=
  OpenClaim.holds_of_wide 7 Try.f7 rfl rfl rfl rfl rfl rfl rfl ⟨rfl, rfl, rfl, rfl, rfl⟩ rfl rfl rfl rfl rfl (by kernel_rfl) Try.func7 (by kernel_rfl)
    (of_decide_eq_true (by kernel_rfl)) (by unfold Func.isWrapper; first | (rw [if_pos (by decide +kernel)]; kernel_rfl) | (rw [if_neg (by decide +kernel)]; exact ⟨rfl, rfl⟩))
    (fun os started H enc _ => lifted os started H enc)

end Go.Proofs.Ytedfacbngefhnaa.psimBound
namespace Go.Proofs.Ytedfacbngefhnaa

theorem psimBound_holds : Rows.PsimBoundSaid := psimBound.over

end Go.Proofs.Ytedfacbngefhnaa
