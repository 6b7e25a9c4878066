/- Contracts of ferrymanref11: Append onto a file that is. -/
import Derived.Test.YtfhgjnfichgdiaaRef11L
namespace Go.Proofs.Ytfhgjnfichgdiaa
open Go.RowKit

set_option maxRecDepth 100000 in
set_option maxHeartbeats 4000000 in
theorem refGrow_any {F : Nat → Prop} {p : Nat} {d : Dk} {N T : Nat} (n : Int) (vb : Value) (b : List UInt8) (w : World) (h : Rsk F w p d N T) (hr : Rd w vb b) (hN : N ≤ 900000) (hT : T ≤ 1000000000) (hbl : b.length ≤ 1000000000) (h0 : d.power ≠ 0) (hmn : mayN n = true) (hroom : ¬ (usedD d : Int) + b.length > d.room) {f : Nat} (ho : look (dirD d) n = some f) :
    Calls Try.prog 19 #[ptr p, .int .i64 n, vb] w fun e w' => RDid F w p (appendTo d f b) 0 (N + 2) (T + b.length) e w' := by
  obtain ⟨L, h, hp, hle, hok, hbn, hrm, hpw⟩ := h
  obtain ⟨ao, cap, rfl, -⟩ := id hr
  obtain ⟨U, hU⟩ : ∃ U, U = usedD d := ⟨_, rfl⟩
  have hUb : U ≤ 900000 * 1000000000 := by
    rw [hU]
    exact Nat.le_trans (usedD_le hok hbn.names hbn.bytes) (Nat.mul_le_mul hN hT)
  have HCE : Hid (∀ W, Below w.heap.size w W → Calls Try.prog 13 #[ptr p] W fun e w' => ∃ v', e = .returned v' ∧ (v' = .int .i64 (U : Int) ∧ Below W.heap.size W w')) := hide (fun W hW => (refUsed_any W (h.below hW) hok hbn hN hT).mono (by
    rintro e w' ⟨rfl, hb⟩
    exact ⟨_, rfl, by rw [hU], hb⟩))
  have HM := hide (refMay_any n w)
  rw [hmn] at HM
  have H := hide h
  have HK : Hid (∀ W, Below w.heap.size w W → W.cell? ⟨p, 0, none⟩ = some (.int .i64 d.room)) := hide (fun W hW => (H.out.below hW).cells.1.1)
  have HE1 : Hid (∀ args w, (callFunc 13 args).run Try.prog w = .ok (.enter 13 args) w) := hide (enters_of Try.func13 (by kernel_rfl) rfl)
  have HS0 : Hid (Below w.heap.size w w.drew) := hide ((Below.refl w.heap.size w).drew)
  obtain ⟨⟨c0, -, -, -, c4, -⟩, -⟩ := h.cells
  rw [hp.1, decide_eq_false h0] at c4
  rw [← hU] at hroom
  obtain ⟨R, hR⟩ : ∃ R, R = d.room := ⟨_, rfl⟩
  rw [← hR] at hroom HK c0
  have hdr : decide ((U : Int) + (b.length : Int) > R) = false := decide_eq_false (by omega)
  obtain ⟨hr1, hr2⟩ : I64 R := by rw [hR]; exact hrm
  have HOK := hide hok
  have HBN := hide hbn
  have HI := hide (And.intro hrm hpw)
  have HP := hide hp
  have HLE := hide hle
  have HRD := hide hr
  have HZ := hide h0
  have hf : f < d.files.length := (hok.dir.mayOf ho).2
  have hfn : f ≤ 900000 := by have := hbn.files; omega
  have hfl2 : d.files.length ≤ 900000 := by have := hbn.files; omega
  have hlb := hbn.bytes _ (mem_fl hf)
  have HF : Hid (∀ W, Below w.heap.size w W → Calls Try.prog 43 #[ptr p, .int .i64 n] W fun e w' => e = .returned (.int .i64 (f : Int)) ∧ Below W.heap.size W w') := hide (fun W hW => by
    have := refFind_any n W (H.out.below hW) hok hbn hN
    rw [ho] at this
    exact this)
  clear h hok hbn hrm hpw hp hle hr hU hR h0 hmn ho
  go_enter Try.func19, Try.ntmps19
  go_wp2_with fail
  refine HM.out.mono ?_
  rintro e w' ⟨rfl, rfl⟩
  go_upto_region 6 with fail
  clear c0 c4
  go_cut [26] (fun v wc => v = .bool false ∧ Hid (Below w'.heap.size w' wc))
  case first =>
    go_region_held2 (fun W => W.cell? ⟨p, 0, none⟩ = some (.int .i64 R))
      (first | (with_reducible exact HK.out _ HS0.out) | (with_reducible exact HK.out _ hbk1))
      (first | ((with_reducible refine step_call 13 _ _ rfl rfl #[ptr p] (by simp [Act.eval]) HE1.out (HCE.out (w'.drew) HS0.out) ?_); rintro v1 W5 ⟨rfl, hb⟩; have hbk1 : Below w'.heap.size w' W5 := HS0.out.trans (hb.mono HS0.out.size); clear hb))
    all_goals
      go_wp2_with fail
      go_meet
      exact ⟨by
        have hw : IntKind.i64.wrap ((U : Int) + (b.length : Int)) = (U : Int) + (b.length : Int) := by rw [IntKind.wrap_i64]; omega
        simp [hw]; omega, hide hbk1⟩
  case rest =>
    obtain ⟨W, rfl⟩ : ∃ W, W = wc := ⟨_, rfl⟩
    obtain ⟨rfl, HB⟩ := hcut
    go_wp2_with fail
    refine (HF.out W HB.out).mono ?_
    rintro e w1 ⟨rfl, hb⟩
    have HB1 : Hid (Below w'.heap.size w' w1) := hide (HB.out.trans (hb.mono HB.out.size))
    have HBD : Hid (Below w'.heap.size w' w1.drew) := hide (HB1.out.trans ((Below.refl _ w1).drew))
    have HR := hide (H.out.below HBD.out)
    have HX := hide (HR.out.file f hf)
    have k1 : w1.drew.cell? ⟨p, 1, none⟩ = some L.fv := HR.out.cells.1.2.1
    obtain ⟨fg, fo, fc, hfv, hfc⟩ := HR.out.fileCell hf
    rw [hfv] at k1
    obtain ⟨va, vc, hvs⟩ := HX.out.own.shape
    have g0 : w1.drew.cell? ⟨L.ps f, 0, none⟩ = some (.slice va (fl d.files f).b.length vc) := by rw [← hvs]; exact (HX.out.box.cell 0 rfl).1
    have y0 : w1.drew.frozen? ⟨L.ps f, 0, none⟩ = false := (HX.out.box.cell 0 rfl).2
    have HOD : Hid (Own w1.drew 0 (.slice va (fl d.files f).b.length vc) (fl d.files f).b) := hide (by rw [← hvs]; exact HX.out.own)
    have HRX : Hid (Rd w1.drew (.slice ao b.length cap) b) := hide (HRD.out.below HBD.out (Nat.le_refl _))
    have HLM : Hid ((fl d.files f).b.length + b.length ≤ 70368744177664) := hide (by omega)
    have HGR : Hid (∀ v' W', Own W' 0 v' ((fl d.files f).b ++ b) → w1.drew.grownBy W' (Value.slice va (fl d.files f).b.length vc).ownBlock → (v'.ownBlock = (Value.slice va (fl d.files f).b.length vc).ownBlock ∨ v'.ownBlock = some w1.drew.heap.size) →
        (RefL (Gr F w1.drew W') (W'.setCell ⟨L.ps f, 0, none⟩ v') p { L with vs := fun i => if i = f then v' else L.vs i } { d with files := growF d.files f b } ∧ Only F w1.drew (W'.setCell ⟨L.ps f, 0, none⟩ v')) ∧ W'.cell? ⟨p, 1, none⟩ = some (.slice (some ⟨fg, fo, none⟩) d.files.length fc) ∧ W'.cell? ⟨fg, fo + f, none⟩ = some (ptr (L.ps f)) ∧ W'.cell? ⟨L.ps f, 0, none⟩ = some (.slice va (fl d.files f).b.length vc) ∧ W'.frozen? ⟨L.ps f, 0, none⟩ = false) := hide (fun v' W' ho' hg' hl' => by
      rw [← hvs] at hg' hl'
      have hne : ∀ {t : TypeId} {k : Nat} {cs : Array Value}, Bk t w1.drew k cs → t ≠ 5 → Bk t W' k cs := fun hb ht => hb.keep (hg'.block _ hb.lt fun e => by
        obtain ⟨cs', hb'⟩ := ownBkS HX.out.own e.symm
        exact (hb.ne hb' ht) rfl)
      have hh := hne HR.out.head (by decide)
      have hx := hne HX.out.box (by decide)
      refine ⟨HR.out.grow hf ho' hg' hl', by rw [← hfv]; exact (hh.cell 1 rfl).1, ?_, by rw [← hvs]; exact (hx.cell 0 rfl).1, (hx.cell 0 rfl).2⟩
      obtain ⟨cs', hb'⟩ := ownBkS HR.out.files (g := fg) (by rw [hfv]; rfl)
      exact (World.cell?_of_block (a := ⟨fg, fo + f, none⟩) ((hne hb' (by decide)).trans hb'.symm)).trans hfc)
    clear hfv hvs hb
    go_upto_region 13 with fail
    go_region_law (refine step_append_rdl (by rfl) _ _ (by rfl) (.slice va (fl d.files f).b.length vc) (fl d.files f).b (by rfl) HOD.out (.slice ao b.length cap) b (by rfl) HRX.out HLM.out ?_; intro v9 W9 ho9 hg9 hl9; obtain ⟨hA, t1, t2, t3, s3⟩ := HGR.out v9 W9 ho9 hg9 hl9; have HA9 := hide hA; obtain ⟨z1, z3, z2, hz⟩ : ∃ a n c, v9 = Value.slice a n c := (by obtain ⟨a, c, h⟩ := ho9.shape; exact ⟨_, _, _, h⟩); subst hz; clear hA ho9 hg9 hl9)
    all_goals
      have HD1 := hide HA9.out.1
      have HON1 : Hid (Only F w' _) := hide ((Only.ofBelow HBD.out).trans HA9.out.2 (fun _ _ hf => hf))
      go_wp2_with fail
      refine (refDid_any _ HD1.out HP.out HZ.out HI.out.2).mono ?_
      rintro e W4 ⟨rfl, hd4, hon4⟩
      have HD4 := hide hd4
      have HON4 := hide hon4
      clear hd4 hon4
      go_wp2
      go_ret
      refine RDid.of (d' := { d with files := growF d.files f b }) (L := L) HON1.out (fun k hk => ?_) HD4.out HON4.out HLE.out (HOK.out.appendTo f b) ((HBN.out.grow f b _).mono (by omega) (Nat.le_refl _)) HI.out.1 HI.out.2
      rcases hk with hk | hk
      · exact .inl hk
      · exact .inr (by have := HBD.out.size; omega)

end Go.Proofs.Ytfhgjnfichgdiaa
