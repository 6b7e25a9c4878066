/- Proved: for every state, every number of processes, every script and every place in it the law PsimGrows answers true (and the call leaves all older memory as it was). No condition. -/
import Derived.Test.YtedfacbngefhnaaPsimLaw
import Derived.Test.YtedfacbngefhnaaRef07S
import Derived.OpenShut
import Derived.ChangeOld
namespace Go.Proofs.Ytedfacbngefhnaa.psimGrows
open Go.ChangeShapes Go.WideShapes Go.ChangeAt Go.RowKit

theorem info_ev : (Try.prog.info? 56).map (fun i => (i.zero, i.size, i.bytes)) = some (some (.agg #[.int .i64 0, .int .i64 0, .int .i64 0, .int .i64 0, .int .i64 0]), 5, 40) := by kernel_rfl

theorem elem_evs : Try.prog.elem 44 = 56 := by kernel_rfl

theorem under_evs : Try.prog.underlying 44 = some (.slice (Try.prog.elem 44)) := by rw [elem_evs]; exact Try.underlying44

theorem size_ev (w : World) : (sizeOf 56).run Try.prog w = .ok 5 w := by
  obtain ⟨i0, hi, _, hz1, _⟩ := info_parts info_ev
  simp [sizeOf, typeInfo, hi, hz1]

set_option maxRecDepth 100000 in
theorem run_front_evs (W : World) (ao : Option Addr) (n cap : Nat) (k : Nat) (hk : k ≤ cap) :
    (Instr.sliceAt 44 (.slice ao n cap) none (some (.int .i64 (k : Int))) none).run Try.prog W = .ok (.slice ao k cap) W := by
  rw [run_sliceAt_slice W 44 _ _ _ _ under_evs, run_slice_h W 44 ao n cap under_evs .i64 (k : Int) (by omega) (by omega), elem_evs, size_ev]
  have e : sliced ao 0 k cap 5 = .slice ao k cap := by
    unfold sliced
    cases ao <;> simp [Addr.add]
  simp [e]

theorem front {w : World} {ao : Option Addr} {n cap : Nat} {l : List EvP} (h : RdV w (.slice ao n cap) l) (k : Nat) (hk : k ≤ l.length) : RdV w (.slice ao k cap) (l.take k) := by
  obtain ⟨ao', cap', hv, h1, h2, h3, h4⟩ := h
  simp only [Value.slice.injEq] at hv
  obtain ⟨rfl, -, rfl⟩ := hv
  have hlen : (l.take k).length = k := by simp; omega
  refine ⟨ao, cap, by rw [hlen], by omega, h2, h3, fun j x hj => h4 j x ?_⟩
  rw [List.getElem?_take] at hj
  split at hj
  · exact hj
  · cases hj

set_option maxRecDepth 100000 in
set_option maxHeartbeats 8000000 in
theorem walk (v : Value) (s : St) (procs : Int) (vl : Value) (l : List EvP) (q : Int) (w : World) (hs : StV w v s) (_hprm : (Lit.int .i64 procs).wf = true) (hl : RdV w vl l) (_hprq : (Lit.int .i64 q).wf = true) :
    Calls Try.prog 6 #[v, .int .i64 procs, vl, .int .i64 q] w fun e w' => e = .returned (.bool true) ∧ Below w.heap.size w w' := by
  have HS := hide hs
  have HL := hide hl
  obtain ⟨vs, rfl, hr, hki, hei⟩ := hs
  obtain ⟨la, lc, rfl, hlc, hcm, -⟩ := hl
  have HLC := hide hlc
  have hml : (l.length : Int) ≤ 9223372036854775807 := by unfold maxLen at hcm; omega
  clear hr hki hei hlc hcm
  have HB0 : Hid (Below w.heap.size w (w.alloc (.cells #[.int .i64 s.kind, vs, .bool s.shut, .int .i64 s.eng] 24))) := hide ((Below.refl _ _).alloc (Nat.le_refl _) _)
  have HX0 : Hid (Bk 24 (w.alloc (.cells #[.int .i64 s.kind, vs, .bool s.shut, .int .i64 s.eng] 24)) w.heap.size #[.int .i64 s.kind, vs, .bool s.shut, .int .i64 s.eng]) := hide (heap_alloc_new _ _)
  have HN0 : Hid (w.heap.size < (w.alloc (.cells #[.int .i64 s.kind, vs, .bool s.shut, .int .i64 s.eng] 24)).heap.size) := hide (by simp)
  go_enter Try.func6, Try.ntmps6
  go_wp2_with fail
  refine (awakeH_any _).mono ?_
  rintro e W1 ⟨rfl, hb1⟩
  have HX1 := hide (HX0.out.keep (hb1.block _ HN0.out))
  have HB1 := hide (HB0.out.trans (hb1.mono (Nat.le_of_lt HN0.out)))
  clear hb1 HX0 HB0 HN0
  obtain ⟨q0, q0'⟩ := HX1.out.cell 0 rfl
  obtain ⟨q1, q1'⟩ := HX1.out.cell 1 rfl
  obtain ⟨q2, q2'⟩ := HX1.out.cell 2 rfl
  obtain ⟨q3, q3'⟩ := HX1.out.cell 3 rfl
  go_wp2_with fail
  refine (fewV_any (HS.out.below HB1.out (Nat.le_refl _)) (HL.out.below HB1.out (Nat.le_refl _))).mono ?_
  rintro e W2 ⟨rfl, hb2⟩
  have HX2 := hide (HX1.out.keep (hb2.block _ HX1.out.lt))
  have HB2 := hide (HB1.out.trans (hb2.mono HB1.out.size))
  clear hb2 HX1 HB1 q0 q1 q2 q3 q0' q1' q2' q3'
  obtain ⟨ok, hok⟩ : ∃ ok, ok = (decide ((s.L.length : Int) ≤ 300) && decide ((l.length : Int) ≤ 1500)) := ⟨_, rfl⟩
  rw [← hok]
  have HOK : Hid (ok = true → l.length ≤ 1500) := hide (by intro h; rw [h] at hok; simp at hok; omega)
  clear hok
  obtain ⟨q0, q0'⟩ := HX2.out.cell 0 rfl
  obtain ⟨q1, q1'⟩ := HX2.out.cell 1 rfl
  obtain ⟨q2, q2'⟩ := HX2.out.cell 2 rfl
  obtain ⟨q3, q3'⟩ := HX2.out.cell 3 rfl
  go_wp2_with fail
  refine (newE_any (HS.out.below HB2.out (Nat.le_refl _)) procs).mono ?_
  rintro e W3 ⟨hb3, hr3⟩
  have HB3 := hide (HB2.out.trans (hb3.mono HB2.out.size))
  have HS2 := hide HB2.out.size
  clear hb3 HX2 HB2 q0 q1 q2 q3 q0' q1' q2' q3'
  by_cases hmay : MayS s ∧ 1 ≤ procs ∧ procs ≤ 64
  case neg =>
    rw [if_neg hmay] at hr3
    subst hr3
    clear hmay
    cases ok
    all_goals
      go_wp2
      go_ret
      exact ⟨rfl, HB3.out⟩
  rw [if_pos hmay] at hr3
  obtain ⟨eb, rfl, hE⟩ := hr3
  cases ok with
  | false =>
    go_wp2
    go_ret
    exact ⟨rfl, HB3.out⟩
  | true =>
    have hlen := HOK.out rfl
    obtain ⟨n, rfl⟩ : ∃ n : Nat, procs = (n : Int) := ⟨procs.toNat, by omega⟩
    rw [Int.toNat_natCast] at hE
    have hf : Fresh herlM n (newEg s n) := herlM_fresh hmay.1 (by omega)
    by_cases hq0 : q < 0
    · clear hE hf hmay HOK HL HS HS2 HLC
      go_wp2
      go_ret
      exact ⟨rfl, HB3.out⟩
    by_cases hql : (l.length : Int) < q
    · clear hE hf hmay HOK HL HS HS2 HLC
      go_wp2
      go_ret
      exact ⟨rfl, HB3.out⟩
    obtain ⟨q, rfl⟩ : ∃ q' : Nat, q = (q' : Int) := ⟨q.toNat, by omega⟩
    have hqn : q ≤ l.length := by omega
    have hsl := fun W => run_front_evs W la l.length lc q (Nat.le_trans hqn HLC.out)
    have htl : (l.take q).length = q := by simp; omega
    have HRUN := hide (run_any (hE.weaken (K' := fun k => k < w.heap.size) fun k hk => Nat.lt_of_lt_of_le hk HS2.out) (fun k hk => Nat.lt_of_lt_of_le hk HB3.out.size) (by omega) hf (front (HL.out.below HB3.out (Nat.le_refl _)) q hqn) (fun W hW => front (HL.out.below (HB3.out.trans (onlyBH hW HB3.out.size)) (Nat.le_refl _)) q hqn) (by omega) (by omega))
    rw [htl] at HRUN
    have HQN := hide hqn
    have HXA : Hid (∀ i, i < l.length → ∀ W, Below w.heap.size w W → ∃ b o, la = some ⟨b, o, none⟩ ∧ EAt W b (o + i * 5) (l.getD i ⟨0, 0, ⟨0, 0, 0⟩⟩)) := hide fun i hi W hW => by
      obtain ⟨x, b, o, h1, h2, h3⟩ := (HL.out.below hW (Nat.le_refl _)).at hi
      refine ⟨b, o, h2, ?_⟩
      rw [List.getD_eq_getElem?_getD, h1]
      exact h3
    have HLE := hide hlen
    clear hE hf hlen hmay HOK HL HS HS2 HLC htl hqn
    go_wp2_with fail
    refine HRUN.out.mono ?_
    rintro e W4 ⟨vo, rfl, -, hE4, hO4⟩
    have HB4 := hide (HB3.out.trans (onlyBH hO4 HB3.out.size))
    have HLG := hide hE4.logs
    have HLOG := hide (log_any hE4 (by have := HLE.out; have := HQN.out; omega))
    have HF4 := hide hE4.fresh
    obtain ⟨e1, he1⟩ : ∃ e1, e1 = (runK n (newEg s n) (l.take q) q).e := ⟨_, rfl⟩
    rw [← he1] at HLG HLOG HF4
    clear he1 hE4 hO4 HRUN HB3 hsl
    go_wp2_with fail
    refine HLOG.out.mono ?_
    rintro e W5 ⟨va, rfl, ho5, hb5⟩
    have HB5 := hide (HB4.out.trans (hb5.mono HB4.out.size))
    have HO5 := hide ho5
    have HA5 := hide (ho5.rd HLG.out.2)
    have HBLK : Hid (∀ k, va.ownBlock = some k → W4.heap.size ≤ k ∧ k < W5.heap.size) := hide fun k hk => by
      refine ⟨?_, (row_bk ho5 hk).choose_spec.lt⟩
      rcases ho5.2 with ⟨hv, _⟩ | ⟨g', cap, cur, hv, hb, _⟩
      · rw [hv] at hk; cases hk
      · rw [hv] at hk
        obtain rfl : g' = k := by simpa [Value.ownBlock] using hk
        exact hb
    have HE5 : Hid (EgM (fun k => k < w.heap.size ∨ va.ownBlock = some k) W5 eb e1 (2 * q)) := hide (((HF4.out.below hb5).weaken fun k hk => hk.imp id fun h => (HBLK.out k h).1).mono (by omega))
    have HK5 : Hid (∀ W : World, W5.heap.size ≤ W.heap.size → ∀ k, (k < w.heap.size ∨ va.ownBlock = some k) → k < W.heap.size) := hide fun (W : World) hW k hk => by
      rcases hk with hk | hk
      · exact Nat.lt_of_lt_of_le hk (Nat.le_trans HB5.out.size hW)
      · exact Nat.lt_of_lt_of_le (HBLK.out k hk).2 hW
    have HBO : Hid (∀ W, Only (fun k => ¬ (k < w.heap.size ∨ va.ownBlock = some k)) W5 W → Below w.heap.size w W) := hide fun W hW => HB5.out.trans (onlyBH (hW.mono fun k hk a => hk (.inl a)) HB5.out.size)
    have HAK : Hid (∀ W, Only (fun k => ¬ (k < w.heap.size ∨ va.ownBlock = some k)) W5 W → RdR W va e1.log) := hide fun W hW => by
      have hr : OwnR W W4.heap.size va e1.log := ownsRow_keep HO5.out fun g hg => hW.block _ (HBLK.out g hg).2 fun k => k (.inr hg)
      exact hr.rd HLG.out.2
    have HON : Hid (∀ (W W' : World), Only (fun k => ¬ (k < w.heap.size ∨ va.ownBlock = some k)) W5 W → Only (fun k => ¬ (k < w.heap.size ∨ va.ownBlock = some k)) W W' → Only (fun k => ¬ (k < w.heap.size ∨ va.ownBlock = some k)) W5 W') := hide fun W W' h1 h2 => h1.trans h2 fun _ _ a => a
    have HPX : Hid (e1.log <+: e1.log) := hide (List.prefix_refl _)
    have HGL : Hid (e1.log.length ≤ 1000000) := hide (by have h1 := HLG.out.1; have h2 := HLE.out; have h3 := HQN.out; omega)
    clear ho5 hb5 HLOG HF4 HLG HB4
    obtain ⟨aa, ac, hva, -⟩ := id HA5.out
    have HVA := hide hva
    clear hva
    go_wp2
    go_loopw [14] (fun vi wr => ∃ (i : Nat) (e : Eg), vi = .int .i64 (i : Int) ∧ q ≤ i ∧ i ≤ l.length ∧ Hid (EgM (fun k => k < w.heap.size ∨ va.ownBlock = some k) wr eb e (2 * i)) ∧ Hid (e1.log <+: e.log) ∧ Hid (Only (fun k => ¬ (k < w.heap.size ∨ va.ownBlock = some k)) W5 wr)) (fun vi _ => l.length - (intOf vi).toNat)
    case atStart => exact ⟨q, e1, rfl, Nat.le_refl _, HQN.out, HE5, HPX, hide (Only.refl _ _)⟩
    case round =>
      obtain ⟨i, e, rfl, hqi, hi, HE, HP, HO⟩ := hrel
      clear HE5 HPX
      by_cases hlt : i < l.length
      case neg =>
        obtain rfl : i = l.length := by omega
        have HLOG := hide (log_any HE.out (by have := HLE.out; omega))
        have HLG := hide HE.out.logs
        clear HXA hi hlt hqi
        go_wp2_with fail
        refine HLOG.out.mono ?_
        rintro r W6 ⟨vb, rfl, ho6, hb6⟩
        have HO6 : Hid (Only (fun k => ¬ (k < w.heap.size ∨ va.ownBlock = some k)) W5 W6) := hide (HON.out _ _ HO.out ((Only.ofBelow hb6 : Only (fun _ => False) wr W6).mono fun _ (a : False) => a.elim))
        have HB6 := hide (HBO.out _ HO6.out)
        have HRA := hide (HAK.out _ HO6.out)
        have hrb := ho6.rd HLG.out.2
        obtain ⟨ba, bc, rfl, hbl, -⟩ := id hrb
        have hle : e1.log.length ≤ e.log.length := HP.out.length_le
        have HRB := hide (hrb.front e1.log.length hle)
        rw [prefix_take HP.out] at HRB
        have HVV := HVA.out
        subst HVV
        have HSM := hide (refSameR_any _ _ _ _ W6 HRA.out HRB.out)
        rw [decide_eq_true rfl] at HSM
        have hsb := fun W => run_front_recs W ba e.log.length bc (e1.log.length : Int) e1.log.length rfl (Nat.le_trans hle hbl)
        have hgt : decide ((e1.log.length : Int) > (e.log.length : Int)) = false := decide_eq_false (by omega)
        have hgt' : ¬ (e.log.length : Int) < (e1.log.length : Int) := by omega
        clear ho6 hb6 hrb hbl hle HLOG
        go_wp2_with fail
        refine HSM.out.mono ?_
        rintro r W7 ⟨rfl, hb7⟩
        have HB7 := hide (HB6.out.trans (hb7.mono HB6.out.size))
        go_wp2
        go_ret
        exact ⟨rfl, HB7.out⟩
      have hil : (i : Int) < (l.length : Int) := by omega
      have HB := hide (HBO.out wr HO.out)
      obtain ⟨lb, lo, rfl, hx0⟩ := HXA.out i hlt wr HB.out
      have HXI : Hid (∀ W, Below w.heap.size w W → EAt W lb (lo + i * 5) (l.getD i ⟨0, 0, ⟨0, 0, 0⟩⟩)) := hide fun W hW => by
        obtain ⟨b, o, h1, h2⟩ := HXA.out i hlt W hW
        obtain ⟨rfl, rfl⟩ : lb = b ∧ lo = o := by simpa using h1
        exact h2
      have HLT := hide hlt
      clear HXA hx0 hlt hi
      generalize l.getD i ⟨0, 0, ⟨0, 0, 0⟩⟩ = x at *
      have HPN : Hid (e1.log <+: (evE herlM e x).log) := hide (HP.out.trans (evE_grows herlM_ok HE.out.mod x).2.2)
      obtain ⟨kind, p2, ⟨co, xa, xb⟩⟩ := x
      obtain ⟨c0, c1, c2, c3, c4, -⟩ := HXI.out wr HB.out
      dsimp only at c0 c1 c2 c3 c4
      have hN2 : 2 * i ≤ 150000 := by have h1 := HLT.out; have h2 := HLE.out; omega
      have hs5 : W5.heap.size ≤ wr.heap.size := HO.out.size
      by_cases hk0 : kind = 0
      · subst hk0
        have HI := hide (invoke_any (HE.out.below ((Below.refl _ _).drew)) (HK5.out wr.drew hs5) hN2 p2 ⟨co, xa, xb⟩)
        unfold opV at HI
        dsimp only at HI
        unfold Invoked at HI
        have HPN2 : Hid (e1.log <+: (herlM.invoke e p2 ⟨co, xa, xb⟩).1.log) := hide (by have h := HPN.out; unfold evE at h; rw [if_pos rfl] at h; exact h)
        have HKP : Hid (∀ W, Below w.heap.size w W → W.cell? ⟨lb, lo + i * 5, none⟩ = some (.int .i64 0) ∧ W.cell? ⟨lb, lo + i * 5 + 1, none⟩ = some (.int .i64 p2) ∧ W.cell? ⟨lb, lo + i * 5 + 2, none⟩ = some (.int .i64 co) ∧ W.cell? ⟨lb, lo + i * 5 + 3, none⟩ = some (.int .i64 xa) ∧ W.cell? ⟨lb, lo + i * 5 + 4, none⟩ = some (.int .i64 xb)) := hide fun W h => by
          obtain ⟨d0, d1, d2, d3, d4, -⟩ := HXI.out W h
          exact ⟨d0, d1, d2, d3, d4⟩
        clear hs5
        go_upto_region 12 with fail
        go_region_held (fun W => W.cell? ⟨lb, lo + i * 5, none⟩ = some (.int .i64 0) ∧ W.cell? ⟨lb, lo + i * 5 + 1, none⟩ = some (.int .i64 p2) ∧ W.cell? ⟨lb, lo + i * 5 + 2, none⟩ = some (.int .i64 co) ∧ W.cell? ⟨lb, lo + i * 5 + 3, none⟩ = some (.int .i64 xa) ∧ W.cell? ⟨lb, lo + i * 5 + 4, none⟩ = some (.int .i64 xb))
          (first | (with_reducible refine HKP.out _ ?_; first | (with_reducible exact HB.out) | (with_reducible exact HB.out.drew) | (with_reducible exact HB2.out)))
          (first | (go_at_call 16; refine HI.out.mono ?_; rintro r W2 ⟨rfl, hm2, ho2⟩; have HE2 := hide hm2; have HO2 := hide (HON.out _ _ (HO.out.drewN 1) ho2); have HB2 := hide (HBO.out _ HO2.out); clear hm2 ho2 HI))
        all_goals
          clear c0 c1 c2 c3 c4
          have c0 := (HXI.out W2 HB2.out).c0
          dsimp only at c0
          have HE3 := hide (HE2.out.mono (show 2 * i + 2 ≤ 2 * (i + 1) by omega))
          go_wp2
          go_roundw
          case rel => exact ⟨i + 1, _, by go_num, by omega, by have := HLT.out; omega, HE3, HPN2, HO2⟩
          case measure => have := HLT.out; simp [intOf]; omega
      · have hk0' : (kind == 0) = false := by rw [beq_eq_false_iff_ne]; exact hk0
        by_cases hk1 : kind = 1
        · subst hk1
          have HI := hide (step_anyE HE.out (HK5.out wr hs5) hN2 p2)
          unfold Stept at HI
          have HPN2 : Hid (e1.log <+: (herlM.step e p2).1.log) := hide (by have h := HPN.out; unfold evE at h; rw [if_neg (show ¬ (1 : Int) = 0 by decide), if_pos rfl] at h; exact h)
          clear hk0 hs5
          go_wp2_with fail
          refine HI.out.mono ?_
          rintro r W2 ⟨rfl, hm2, ho2⟩
          have HE3 := hide (hm2.mono (show 2 * i + 2 ≤ 2 * (i + 1) by omega))
          have HO2 := hide (HON.out _ _ HO.out ho2)
          clear hm2 ho2 HI c0 c1 c2 c3 c4
          go_wp2
          go_roundw
          case rel => exact ⟨i + 1, _, by go_num, by omega, by have := HLT.out; omega, HE3, HPN2, HO2⟩
          case measure => have := HLT.out; simp [intOf]; omega
        · have hk1' : (kind == 1) = false := by rw [beq_eq_false_iff_ne]; exact hk1
          have HE3 := hide (HE.out.mono (show 2 * i ≤ 2 * (i + 1) by omega))
          clear hk0 hk1 hs5
          go_wp2
          go_roundw
          case rel => exact ⟨i + 1, _, by go_num, by omega, by have := HLT.out; omega, HE3, HP, HO⟩
          case measure => have := HLT.out; simp [intOf]; omega

theorem own : ownKnob Try.prog.godebug = none := by kernel_rfl
theorem laidOut : laidOutB Try.prog = true := by kernel_rfl

set_option linter.unusedVariables false in
set_option maxRecDepth 100000 in
theorem lifted (os : Os) (started : os.Started) (H : Type) (enc : TypeId × Value → H) :
    ReturnsInHanded {} Try.checked os 6 .any (Rows.psimGrowsSpec.pre6 enc Try.prog Try.f6 Rows.psimGrowsRow.domain false) (Rows.psimGrowsSpec.post enc Try.prog Try.f6 false true false false) := by
  refine returnsInHanded_of_change (C := Try.checked) own started (by kernel_rfl) Try.func6
    (ChangeSpec.witness6 (enc := enc) (C := Try.checked) false ⟨#[], #[.agg #[.int .i64 0, .slice none 0 0, .bool false, .int .i64 0], .int .i64 0, .slice none 0 0, .int .i64 0], []⟩ 8 (by kernel_rfl) (by kernel_rfl) (by kernel_rfl) (by kernel_rfl)) ?_
  intro W base args ds gs before hval0 hW hcnd _
  have hval : ∀ (j : Nat) t v, Try.f6.params[j]? = some t → args[j]? = some v → Value.okWide Try.prog W .any base t v := hval0
  have hW' := hW
  obtain ⟨p, q, hA0, hV, rfl, hfz, hnd⟩ := hW
  have hA : DataW.TrodAll enc Try.prog W 0 (fun _ => true) true Try.f6.params.toList args.toList ds p := hA0
  rw [Try.params6] at hA hval
  obtain ⟨v0, vs0, d0, ds0, p0, q0, hargs, rfl, rfl, h0, r0⟩ := trodAll_cons hA
  obtain ⟨v1, vs1, d1, ds1, p1, q1, rfl, rfl, rfl, h1, r1⟩ := trodAll_cons r0
  obtain ⟨v2, vs2, d2, ds2, p2, q2, rfl, rfl, rfl, h2, r2⟩ := trodAll_cons r1
  obtain ⟨v3, vs3, d3, ds3, p3, q3, rfl, rfl, rfl, h3, r3⟩ := trodAll_cons r2
  obtain ⟨rfl, rfl, rfl⟩ := trodAll_nil r3
  obtain rfl : args = #[v0, v1, v2, v3] := by cases args; simp_all
  obtain ⟨rfl, rfl⟩ := trodVars_none hV
  have k0 := h0
  have lt0 : ∀ x ∈ p0, x.block < W.heap.size := by obtain ⟨m, hm⟩ := k0; exact DataW.trod_lt m _ _ _ hm
  obtain ⟨s0, w0⟩ := open_state (hval 0 24 v0 rfl rfl) h0
  obtain ⟨a1, rfl, rfl, rfl, w1⟩ := open_int Try.underlying3 (hval 1 3 v1 rfl rfl) h1
  obtain ⟨a2, len2, cap2, rfl⟩ := okWide_slice Try.underlying44 (hval 2 44 v2 rfl rfl)
  have k2 := h2
  have lt2 : ∀ x ∈ p2, x.block < W.heap.size := by obtain ⟨m, hm⟩ := k2; exact DataW.trod_lt m _ _ _ hm
  obtain ⟨l2, w2⟩ : ∃ l, RdV W (.slice a2 len2 cap2) l := by
    obtain ⟨fuel, hf⟩ := h2
    obtain ⟨v, l, hcs, hr⟩ := open_evs hf
    simp [Value.cells] at hcs
    subst hcs
    exact ⟨l, hr⟩
  obtain ⟨a3, rfl, rfl, rfl, w3⟩ := open_int Try.underlying3 (hval 3 3 v3 rfl rfl) h3
  clear hA0 hval0
  refine (walk _ s0 a1 _ l2 a3 W w0 w1 w2 w3).mono fun e W' ⟨he, bel⟩ => ?_
  subst he
  exact ⟨_, rfl, _, _, _, [], _, [], hW', trodAll_mk1 (shut_bool Try.underlying4 _), (trodAll_cons_mk (Below.trod laidOut (by kernel_rfl) (of_decide_eq_true (by kernel_rfl)) k0 bel lt0) (trodAll_cons_mk (shut_int Try.underlying3 w1) (trodAll_cons_mk (Below.trod laidOut (by kernel_rfl) (of_decide_eq_true (by kernel_rfl)) k2 bel lt2) (trodAll_cons_mk (shut_int Try.underlying3 w3) trodAll_mk0)))), rfl, bel.frame _, fun h => by cases h⟩

theorem over : Rows.psimGrowsRow.holds Try.pinned (OpenSpec.ofChange Rows.psimGrowsSpec) :=
  OpenClaim.holds_of_wide 6 Try.f6 rfl rfl rfl rfl rfl rfl rfl ⟨rfl, rfl, rfl, rfl, rfl⟩ rfl rfl rfl rfl rfl (by kernel_rfl) Try.func6 (by kernel_rfl)
    (of_decide_eq_true (by kernel_rfl)) (by unfold Func.isWrapper; first | (rw [if_pos (by decide +kernel)]; kernel_rfl) | (rw [if_neg (by decide +kernel)]; exact ⟨rfl, rfl⟩))
    (fun os started H enc _ => lifted os started H enc)

end Go.Proofs.Ytedfacbngefhnaa.psimGrows
namespace Go.Proofs.Ytedfacbngefhnaa

theorem psimGrows_holds : Rows.PsimGrowsSaid := psimGrows.over

end Go.Proofs.Ytedfacbngefhnaa
