/- Proved: for every kind and every calls the law StoreOpens answers true (and the call leaves all older memory as it was), where the listed variable has its listed value. -/
import Derived.Test.YtpopbandpnaicaaGreatDoorStoreAw
import Derived.Test.YtpopbandpnaicaaGreatDoorSchemaTab
import Derived.Test.YtpopbandpnaicaaGreatDoorFilesLawM
import Derived.Deep.RegionHeld
import Derived.OpenShut
import Derived.ChangeOld
namespace Go.Proofs.YtpopbandpnaicaaGreatDoor.storeOpens
set_option maxRecDepth 100000
open Go.ChangeShapes Go.WideShapes Go.ChangeAt Go.RowKit

theorem thousand (W : World) : RdI (W.alloc (.cells #[.int .i64 1000] 3)) (.slice (some ⟨W.heap.size, 0, none⟩) 1 1) [1000] := by
 refine ⟨some ⟨W.heap.size, 0, none⟩, 1, rfl, Nat.le_refl _, by unfold maxLen; decide, (fun e => by cases e), fun x hx => ?_, .inr ⟨W.heap.size, 0, rfl, fun j hj => ?_⟩⟩
 · rw [List.mem_singleton.1 hx]
   exact ⟨by decide, by decide⟩
 · have hj0 : j = 0 := by
     have : j < 1 := hj
     omega
   subst hj0
   exact cell_of_row _ _ 0 _ _ _ (heap_alloc_new W _)

theorem openE_on {d : Dk} {kind : Int} (h0 : 0 <= kind) (h1 : kind < 6) (hp : d.power = -1) : openE d kind = 0 := by
 unfold openE
 rw [if_neg (by omega), if_neg (by omega)]

theorem openE_off {d : Dk} {kind : Int} (h0 : 0 <= kind) (h1 : kind < 6) (hp : d.power = 0) : openE d kind = 11 := by
 unfold openE
 rw [if_neg (by omega), if_pos hp]

set_option maxHeartbeats 8000000 in
theorem walk (kind : Int) (v : Value) (l : List SOp) (w : World) (_hkd : (Lit.int .i64 kind).wf = true) (hl : RdS w v l) (_ht : TabF w) :
   Calls Tryz.prog 8 #[.int .i64 kind, v] w fun e w' => e = .returned (.bool true) ∧ Below w.heap.size w w' := by
 have HAW := hide (awakeS_any w)
 have HRL := hide hl
 obtain ⟨la, lc, rfl, -⟩ := hl
 clear _hkd _ht
 obtain ⟨B, hB⟩ : ∃ B, B = w.heap.size := ⟨_, rfl⟩
 rw [<- hB] at HAW ⊢
 have HBW : Hid (B <= w.heap.size) := hide (by omega)
 have HBE := hide hB
 clear hB
 have hS : ∀ {W : World}, Below B w W -> B <= W.heap.size := fun h => Nat.le_trans HBW.out h.size
 have hpe := hpeD
 have hpn := hpnD
 go_enter Tryz.func8, Tryz.ntmps8
 go_wp2_with fail
 refine HAW.out.mono ?_
 rintro e W1 ⟨rfl, hb1⟩
 have HB1 := hide hb1
 have HFW := hide (fewS_any _ l W1 (HRL.out.below hb1 (by rw [HBE.out]; exact Nat.le_refl _)))
 clear hb1 HAW
 go_wp2_with fail
 refine HFW.out.mono ?_
 rintro e W1' ⟨FB, rfl, hfw, rfl⟩
 have HFP := hide hfw
 have HN := hide (newB_any B 1000000 ⟨by decide, by decide⟩ W1' (hS HB1.out))
 clear hfw HFW
 go_wp2_with fail
 refine HN.out.mono ?_
 rintro e W2 ⟨p, rfl, hd2, hb2⟩
 have HD2 := hide hd2
 have HB2 := hide (HB1.out.trans hb2)
 clear hd2 hb2 HN
 cases FB with
 | false =>
   go_wp2
   go_ret
   exact ⟨by first | rfl | simp, HB2.out⟩
 | true =>
 have HFEW := hide (HFP.out rfl)
 have hlen := HFEW.out.1
 clear HFP HB1
 by_cases hk0 : kind < 0
 case pos =>
   have hk0' : decide (kind < 0) = true := decide_eq_true hk0
   go_wp2
   go_ret
   exact ⟨by first | rfl | simp, HB2.out⟩
 by_cases hk1 : 6 <= kind
 case pos =>
   have hk0' : decide (kind < 0) = false := decide_eq_false hk0
   have hk1' : decide (kind ≥ 6) = true := decide_eq_true hk1
   go_wp2
   go_ret
   exact ⟨by first | rfl | simp, HB2.out⟩
 have hk0' : decide (kind < 0) = false := decide_eq_false hk0
 have hk1' : decide (kind ≥ 6) = false := decide_eq_false (by omega)
 have HK : Hid (0 <= kind ∧ kind < 6) := hide (by omega)
 clear hk0 hk1
 go_wp2
 go_loopw [8] (fun vi wr => ∃ (i : Nat) (d : Dk), vi = .int .i64 (i : Int) ∧ i <= l.length ∧ Hid (DskB B wr p d (2 * i) (300 * i)) ∧ Hid (Below B w wr) ∧ Hid (d.power = -1)) (fun vi _ => l.length - (intOf vi).toNat)
 case atStart => exact ⟨0, newD 1000000, rfl, Nat.zero_le _, HD2, HB2, hide rfl⟩
 case round =>
   clear HD2 HB2
   obtain ⟨i, d, rfl, hil, HD, HB, HPW⟩ := hrel
   by_cases hlt : i < l.length
   case neg =>
     have hib : i <= 60 := by omega
     have HOA := hide (opens_any kind wr HD.out (hS HB.out) (by omega) (by omega) (by
       have h1 : 2 * i * (300 * i) <= 120 * 18000 := Nat.mul_le_mul (by omega) (by omega)
       omega) (openE_on HK.out.1 HK.out.2 HPW.out))
     clear hk0' hk1'
     go_wp2_with fail
     refine HOA.out.mono ?_
     rintro e W3 ⟨rfl, hb3⟩
     have HD3 := hide (HD.out.below hb3)
     have HB3 := hide (HB.out.trans (hb3.mono (hS HB.out)))
     clear hb3 HD HB HOA
     have HCT := hide (cutB_any 0 ⟨by decide, by decide⟩ W3 HD3.out (hS HB3.out))
     go_wp2_with fail
     refine HCT.out.mono ?_
     rintro e W4 ⟨rfl, hd4, hb4⟩
     have HP4 : Hid ((cutD d 0).power = 0) := hide (by unfold cutD; rw [HPW.out]; rfl)
     have HD4 := hide hd4
     have HB4 := hide (HB3.out.trans hb4)
     clear hd4 hb4 HD3 HB3 HCT
     have HOP := hide (openB_any kind W4 HD4.out (hS HB4.out) (by omega) (by omega) (by
       have h1 : 2 * i * (300 * i) <= 120 * 18000 := Nat.mul_le_mul (by omega) (by omega)
       omega))
     have HOP2 : Hid (Calls Tryz.prog 15 #[ptr p, .int .i64 kind] W4 fun e w' => e = .returned (.tuple #[.pointer none, .int .i64 11]) ∧ w' = W4) := hide (HOP.out.mono fun e w' hh => by
       have hE := openE_off HK.out.1 HK.out.2 HP4.out
       rcases hh with ⟨-, h2, h3⟩ | ⟨h1, -⟩
       · rw [hE] at h2
         exact ⟨h2, h3⟩
       · rw [hE] at h1
         exact absurd h1 (by decide))
     clear HOP
     go_wp2_with fail
     refine HOP2.out.mono ?_
     rintro e W5 ⟨rfl, rfl⟩
     have HCR := hide (crashB_new (B := B) 100 _ [1000] W5 (W5.alloc (.cells #[.int .i64 1000] 3)) HD4.out (allocB _ _) (hS HB4.out) (by omega) (by omega) (thousand W5) (newOut _ _ _) (by decide))
     have HBA : Hid (Below B w (W5.alloc (.cells #[.int .i64 1000] 3))) := hide (HB4.out.trans ((allocB _ _).mono (hS HB4.out)))
     go_wp2_with fail
     refine HCR.out.mono ?_
     rintro e W6 ⟨rfl, hd6, hb6⟩
     have HB6 := hide (HBA.out.trans hb6)
     have HOB := hide (opens_any kind W6 hd6 (hS HB6.out) (by omega) (by omega) (by
       have h1 : 2 * i * (300 * i) <= 120 * 18000 := Nat.mul_le_mul (by omega) (by omega)
       omega) (openE_on HK.out.1 HK.out.2 rfl))
     clear hd6 hb6 HCR HBA HD4 HB4
     go_wp2_with fail
     refine HOB.out.mono ?_
     rintro e W7 ⟨rfl, hb7⟩
     have HB7 := hide (HB6.out.trans (hb7.mono (hS HB6.out)))
     clear hb7 HOB HB6
     go_wp2
     go_ret
     exact ⟨by first | rfl | simp, HB7.out⟩
   have HLT := hide hlt
   have hib : i <= 60 := by omega
   obtain ⟨x, rb, off, ka, kc, ra, rc, ba, bc, hx, hao, ho⟩ := HRL.out.at hlt
   have HSM := hide (HFEW.out.2 i x hx)
   have HOP := hide ho
   have HOW := hide (ho.below HB.out (by rw [HBE.out]; exact Nat.le_refl _))
   subst hao
   have HXI := hide ho.i2
   have HBL : Hid (x.b = [] ∨ ∀ k, (Value.slice ba x.b.length bc).ownBlock = some k -> k < B) := hide (by rw [HBE.out]; exact ho.rb.blockLt)
   have HRB := hide HOW.out.rb
   have c2 := HOW.out.c2
   have c8 := HOW.out.c8
   obtain ⟨xn, hxn⟩ : ∃ xn, xn = x.n := ⟨_, rfl⟩
   obtain ⟨bl, hbl⟩ : ∃ bl, bl = x.b := ⟨_, rfl⟩
   rw [<- hxn] at c2 HXI
   rw [<- hbl] at c8 HBL HRB HSM
   have HKP : Hid (∀ W, Below B w W -> W.cell? ⟨rb, off + i * 9 + 2, none⟩ = some (.int .i64 xn) ∧ W.cell? ⟨rb, off + i * 9 + 8, none⟩ = some (.slice ba bl.length bc)) := hide (fun W h => by
     have hh := HOP.out.below h (by rw [HBE.out]; exact Nat.le_refl _)
     rw [hxn, hbl]
     exact ⟨hh.c2, hh.c8⟩)
   have hb3 := HSM.out.2.1
   have HPA := hide (lit_append HPW.out xn bl)
   obtain ⟨⟨D2, C⟩, hD2⟩ : ∃ r, r = appendD d xn bl := ⟨_, rfl⟩
   have HC := hide (appendB_rd (B := B) xn HXI.out _ bl wr.drew (HD.out.below (Below.refl _ _).drew) (hS HB.out.drew) (HRB.out.below (Below.refl _ _).drew (Nat.le_refl _)) HBL.out (by omega) (by omega) (by omega))
   rw [<- hD2] at HC HPA
   dsimp only at HPA
   clear hlt hx ho hxn hbl hD2 HOP HOW HSM
   go_upto_region 9 with fail
   go_region_held (fun W => W.cell? ⟨rb, off + i * 9 + 2, none⟩ = some (.int .i64 xn) ∧ W.cell? ⟨rb, off + i * 9 + 8, none⟩ = some (.slice ba bl.length bc))
     (first | (with_reducible refine HKP.out _ ?_; first | (with_reducible exact HB.out) | (with_reducible exact HB.out.drew) | (with_reducible exact HB2.out)))
     (first | (go_at_call 29; refine HC.out.mono ?_; rintro e W2 ⟨rfl, hd2, hb2⟩; have HD2 := hide hd2; have HB2 := hide (HB.out.drew.trans hb2); clear hd2 hb2 HC))
   all_goals
     go_wp2
     go_roundw
     case rel => exact ⟨i + 1, _, by go_num, by have := HLT.out; omega, hide (HD2.out.mono (by omega) (by omega)), HB2, HPA⟩
     case measure => have := HLT.out; simp [intOf]; omega

theorem own : ownKnob Tryz.prog.godebug = none := by kernel_rfl
theorem laidOut : laidOutB Tryz.prog = true := by kernel_rfl

set_option linter.unusedVariables false in
theorem lifted (os : Os) (started : os.Started) (H : Type) (enc : TypeId × Value -> H) :
   ReturnsInHanded {} Tryz.checked os 8 .any (fun w args => (Rows.storeOpensSpec.pre enc Tryz.prog Tryz.f8 Rows.storeOpensRow.domain false w args ∧ laidMetH Tryz.prog Rows.storeOpensRow.laid w) ∧ sizedMet enc Tryz.prog Tryz.f8 (OpenSpec.ofChange Rows.storeOpensSpec) false w args) (Rows.storeOpensSpec.post enc Tryz.prog Tryz.f8 false true false false) := by
 refine returnsInHanded_of_change_and (C := Tryz.checked) (X := fun w _ => laidMetH Tryz.prog Rows.storeOpensRow.laid w) (fun _ _ _ hh h => h.of_heap hh) own started (by kernel_rfl) Tryz.func8
   (ChangeSpec.witness_shaped (enc := enc) (C := Tryz.checked) (os := os) (X := fun w _ => laidMetH Tryz.prog Rows.storeOpensRow.laid w) false (World.doorLaid Tryz.prog 400 os) #[.int .i64 0, .slice none 0 0] 8 rfl (World.shaped_of_RefB (by kernel_rfl) (by kernel_rfl)) (by kernel_rfl) (by kernel_rfl) (by kernel_rfl) (door_met os _)) ?_
 intro W base args ds gs before hval0 hW hcnd _ hL _
 have hval : ∀ (j : Nat) t v, Tryz.f8.params[j]? = some t -> args[j]? = some v -> Value.okWide Tryz.prog W .any base t v := hval0
 have hW' := hW
 obtain ⟨p, q, hA0, hV, rfl, hfz, hnd⟩ := hW
 have hA : DataW.TrodAll enc Tryz.prog W 0 (fun _ => true) true Tryz.f8.params.toList args.toList ds p := hA0
 rw [Tryz.params8] at hA hval
 obtain ⟨v0, vs0, d0, ds0, p0, q0, hargs, rfl, rfl, h0, r0⟩ := trodAll_cons hA
 obtain ⟨v1, vs1, d1, ds1, p1, q1, rfl, rfl, rfl, h1, r1⟩ := trodAll_cons r0
 obtain ⟨rfl, rfl, rfl⟩ := trodAll_nil r1
 obtain rfl : args = #[v0, v1] := by cases args; simp_all
 obtain ⟨rfl, rfl⟩ := trodVars_none hV
 obtain ⟨a0, rfl, rfl, rfl, w0⟩ := open_int Tryz.underlying3 (hval 0 3 v0 rfl rfl) h0
 obtain ⟨a1, len1, cap1, rfl⟩ := okWide_slice Tryz.underlying22 (hval 1 22 v1 rfl rfl)
 have k1 := h1
 have lt1 : ∀ x ∈ p1, x.block < W.heap.size := by obtain ⟨m, hm⟩ := k1; exact DataW.trod_lt m _ _ _ hm
 obtain ⟨l1, w1⟩ : ∃ l, RdS W (.slice a1 len1 cap1) l := by
   obtain ⟨fuel, hf⟩ := h1
   obtain ⟨v, l, hcs, hr⟩ := open_sops hf
   simp [Value.cells] at hcs
   subst hcs
   exact ⟨l, hr⟩
 clear hA0 hval0
 refine (walk a0 _ l1 W w0 w1 (tabs hL)).mono fun e W' ⟨he, bel⟩ => ?_
 subst he
 exact ⟨_, rfl, _, _, _, [], _, [], hW', trodAll_mk1 (shut_bool Tryz.underlying4 _), (trodAll_cons_mk (shut_int Tryz.underlying3 w0) (trodAll_cons_mk (Below.trod laidOut (by kernel_rfl) (of_decide_eq_true (by kernel_rfl)) k1 bel lt1) trodAll_mk0)), rfl, bel.frame _, fun h => by cases h⟩

theorem over : Rows.storeOpensRow.holds Tryz.pinned (OpenSpec.ofChange Rows.storeOpensSpec) :=
 OpenClaim.holds_of_wide 8 Tryz.f8 rfl rfl rfl rfl rfl rfl rfl ⟨rfl, rfl, rfl, rfl, rfl⟩ rfl rfl rfl rfl rfl (by kernel_rfl) Tryz.func8 (by kernel_rfl)
   (of_decide_eq_true (by kernel_rfl)) (by unfold Func.isWrapper; first | (rw [if_pos (by decide +kernel)]; kernel_rfl) | (rw [if_neg (by decide +kernel)]; exact ⟨rfl, rfl⟩))
   (fun os started H enc _ => lifted os started H enc)

end Go.Proofs.YtpopbandpnaicaaGreatDoor.storeOpens
namespace Go.Proofs.YtpopbandpnaicaaGreatDoor

theorem storeOpens_holds : Rows.StoreOpensCardSaid :=
 Claim7.holds_tied_plain_at .later [] _ _ _ _ storeOpens.over (fun _ h => by cases h) (by kernel_rfl) (fun _ h => by cases h) storeOpens_row_tie rfl ⟨rfl, rfl⟩ (by kernel_rfl) rfl
   (fun f fn hf hfn => by
     obtain rfl : f = 8 := Option.some.inj ((show Tryz.prog.funcNamed "ferryman/ferrymanlaw12.StoreOpens" = some 8 by kernel_rfl).symm.trans hf) |>.symm
     obtain rfl : fn = Tryz.f8 := (Option.some.inj (Tryz.func8.symm.trans hfn)).symm
     exact ⟨by kernel_rfl, fun j t ht => by
       rw [Tryz.params8] at ht
       have hm : t ∈ [3, 22] := by simpa using Array.mem_of_getElem? ht
       have hall : ([3, 22].all fun u => !Tryz.prog.wantsStandIn u) = true := by kernel_rfl
       exact (show Tryz.prog.wantsStandIn t = false by simpa using List.all_eq_true.1 hall t hm)⟩)
   (by kernel_rfl)

end Go.Proofs.YtpopbandpnaicaaGreatDoor
