/- Contracts of ferrymanref11: Append onto a name that has no file; Append. -/
import Derived.Test.YtfhgjnfichgdiaaRef11M
namespace Go.Proofs.Ytfhgjnfichgdiaa
open Go.RowKit

set_option maxRecDepth 100000 in
set_option maxHeartbeats 4000000 in
theorem refFresh_any {F : Nat → Prop} {p : Nat} {d : Dk} {N T : Nat} (n : Int) (vb : Value) (b : List UInt8) (w : World) (h : Rsk F w p d N T) (hr : Rd w vb b) (hN : N ≤ 900000) (hT : T ≤ 1000000000) (hbl : b.length ≤ 1000000000) (hvb : b = [] ∨ ∀ k, vb.ownBlock = some k → ¬ F k) (h0 : d.power ≠ 0) (hmn : mayN n = true) (hroom : ¬ (usedD d : Int) + b.length > d.room) (ho : look (dirD d) n = none) :
    Calls Try.prog 19 #[ptr p, .int .i64 n, vb] w fun e w' => RDid F w p (appendTo (freshD d n) d.files.length b) 0 (N + 2) (T + b.length) e w' := by
  obtain ⟨L, h, hp, hle, hok, hbn, hrm, hpw⟩ := h
  obtain ⟨ao, cap, rfl, -⟩ := id hr
  obtain ⟨U, hU⟩ : ∃ U, U = usedD d := ⟨_, rfl⟩
  have hUb : U ≤ 900000 * 1000000000 := by
    rw [hU]
    exact Nat.le_trans (usedD_le hok hbn.names hbn.bytes) (Nat.mul_le_mul hN hT)
  have HCE : Hid (∀ W, Below w.heap.size w W → Calls Try.prog 13 #[ptr p] W fun e w' => ∃ v', e = .returned v' ∧ (v' = .int .i64 (U : Int) ∧ Below W.heap.size W w')) := hide (fun W hW => (refUsed_any W (h.below hW) hok hbn hN hT).mono (by
    rintro e w' ⟨rfl, hb⟩
    exact ⟨_, rfl, by rw [hU], hb⟩))
  have HM := hide (refMay_any n w)
  rw [hmn] at HM
  have H := hide h
  have HK : Hid (∀ W, Below w.heap.size w W → W.cell? ⟨p, 0, none⟩ = some (.int .i64 d.room)) := hide (fun W hW => (H.out.below hW).cells.1.1)
  have HE1 : Hid (∀ args w, (callFunc 13 args).run Try.prog w = .ok (.enter 13 args) w) := hide (enters_of Try.func13 (by kernel_rfl) rfl)
  have HS0 : Hid (Below w.heap.size w w.drew) := hide ((Below.refl w.heap.size w).drew)
  obtain ⟨⟨c0, -, -, -, c4, -⟩, -⟩ := h.cells
  rw [hp.1, decide_eq_false h0] at c4
  rw [← hU] at hroom
  obtain ⟨R, hR⟩ : ∃ R, R = d.room := ⟨_, rfl⟩
  rw [← hR] at hroom HK c0
  have hdr : decide ((U : Int) + (b.length : Int) > R) = false := decide_eq_false (by omega)
  obtain ⟨hr1, hr2⟩ : I64 R := by rw [hR]; exact hrm
  have HOK := hide hok
  have HBN := hide hbn
  have HI := hide (And.intro hrm hpw)
  have HP := hide hp
  have HLE := hide hle
  have HRD := hide hr
  have HVB := hide hvb
  clear hvb
  have HZ := hide h0
  have hfl2 : d.files.length ≤ 900000 := by have := hbn.files; omega
  have HMN := hide hmn
  have HF : Hid (∀ W, Below w.heap.size w W → Calls Try.prog 43 #[ptr p, .int .i64 n] W fun e w' => e = .returned (.int .i64 (-1)) ∧ Below W.heap.size W w') := hide (fun W hW => by
    have := refFind_any n W (H.out.below hW) hok hbn hN
    rw [ho] at this
    exact this)
  clear h hok hbn hrm hpw hp hle hr hU hR h0 hmn ho
  go_enter Try.func19, Try.ntmps19
  go_wp2_with fail
  refine HM.out.mono ?_
  rintro e w' ⟨rfl, rfl⟩
  go_upto_region 6 with fail
  clear c0 c4
  go_cut [26] (fun v wc => v = .bool false ∧ Hid (Below w'.heap.size w' wc))
  case first =>
    go_region_held2 (fun W => W.cell? ⟨p, 0, none⟩ = some (.int .i64 R))
      (first | (with_reducible exact HK.out _ HS0.out) | (with_reducible exact HK.out _ hbk1))
      (first | ((with_reducible refine step_call 13 _ _ rfl rfl #[ptr p] (by simp [Act.eval]) HE1.out (HCE.out (w'.drew) HS0.out) ?_); rintro v1 W5 ⟨rfl, hb⟩; have hbk1 : Below w'.heap.size w' W5 := HS0.out.trans (hb.mono HS0.out.size); clear hb))
    all_goals
      go_wp2_with fail
      go_meet
      exact ⟨by
        have hw : IntKind.i64.wrap ((U : Int) + (b.length : Int)) = (U : Int) + (b.length : Int) := by rw [IntKind.wrap_i64]; omega
        simp [hw]; omega, hide hbk1⟩
  case rest =>
    obtain ⟨W, rfl⟩ : ∃ W, W = wc := ⟨_, rfl⟩
    obtain ⟨rfl, HB⟩ := hcut
    go_wp2_with fail
    refine (HF.out W HB.out).mono ?_
    rintro e w1 ⟨rfl, hb⟩
    have HB1 : Hid (Below w'.heap.size w' w1) := hide (HB.out.trans (hb.mono HB.out.size))
    have HR := hide (H.out.below HB1.out)
    clear hb
    obtain ⟨⟨-, k1, -, k3, -⟩, j1, -, j3, -⟩ := HR.out.cells
    obtain ⟨fa, fc, hfv⟩ : ∃ a c, L.fv = .slice a d.files.length c := by
      rcases H.out.files.2 with ⟨hv, hn⟩ | ⟨g, cap, cur, hv, _⟩
      · exact ⟨_, _, by rw [hv, hn]⟩
      · exact ⟨_, _, hv⟩
    rw [hfv] at k1
    have HFV := hide hfv
    have HFR : Hid ((w1.alloc (.cells #[.slice none 0 0, .int .i64 0] 64)).ownsRow 0 65 1 (.slice fa d.files.length fc) (ptrCells L.ps d.files.length).length (ptrCells L.ps d.files.length)) := hide (by
      rw [ptrCells_length, ← hfv]
      exact World.ownsRow.alloc HR.out.files _)
    have HLF : Hid ((ptrCells L.ps d.files.length).length ≤ 10000000) := hide (by rw [ptrCells_length]; omega)
    obtain ⟨va, vc, hvs⟩ : ∃ a c, L.wv = .slice a d.waits.length c := by
      rcases H.out.waits.2 with ⟨hv, hn⟩ | ⟨g, cap, cur, hv, _⟩
      · exact ⟨_, _, by rw [hv, hn]⟩
      · exact ⟨_, _, hv⟩
    have HWV := hide hvs
    have HLN : Hid (d.waits.length ≤ 10000000) := hide (by have := HBN.out.names; omega)
    clear hfv hvs k3 j3
    go_wp2_with (at_builtin; refine (fun (h : True → _) => h trivial) ?_)
    intro _
    refine wpList_append_rp (w1.alloc (.cells #[.slice none 0 0, .int .i64 0] 64)) rfl _ _ rfl (.slice fa d.files.length fc) (ptrCells L.ps d.files.length) rfl HFR.out w1.heap.size (by simp [Act.eval]) HLF.out ?_
    intro v2 w2 hr2 hg2 hv2
    obtain ⟨hA1, hA2, t1, s1⟩ := HR.out.addFile rfl hr2 (by rw [HFV.out]; exact hg2) (by rw [HFV.out]; exact hv2)
    rw [HFV.out] at t1
    obtain ⟨L2, hL2⟩ : ∃ L2, L2 = { L with fv := v2, ps := fun i => if i = d.files.length then w1.heap.size else L.ps i, vs := fun i => if i = d.files.length then .slice none 0 0 else L.vs i } := ⟨_, rfl⟩
    rw [← hL2] at hA1
    have HL2 : Hid (L2.wv = L.wv ∧ (L2.out = L.out ∧ L2.armed = L.armed ∧ L2.left = L.left)) := hide (by rw [hL2]; exact ⟨rfl, rfl, rfl, rfl⟩)
    obtain ⟨W2, hW2⟩ : ∃ W2, W2 = w2.setCell ⟨p, 1, none⟩ v2 := ⟨_, rfl⟩
    rw [← hW2] at hA1 hA2
    have HD2 := hide hA1
    have HON2 := hide hA2
    have HW2 := hide hW2
    obtain ⟨a9, n9, c9, hv9⟩ : ∃ a b c, v2 = .slice a b c := by
      rcases hr2.2 with ⟨hv, hn⟩ | ⟨g, cap, cur, hv, _⟩
      · exact ⟨_, _, _, hv⟩
      · exact ⟨_, _, _, hv⟩
    subst hv9
    have HG2 : Hid (w1.heap.size ≤ w2.heap.size) := hide (by have := hg2.size; simp at this; omega)
    clear hA1 hA2 hr2 hg2 hv2 hW2 hL2
    go_upto_region 12 with fail
    rw [← HW2.out]
    clear HW2 t1 s1 k1 j1
    obtain ⟨⟨-, -, -, k3, -⟩, -, -, j3, -⟩ := HD2.out.cells
    rw [HL2.out.1, HWV.out] at k3
    have HWR : Hid (W2.ownsRow 0 81 3 (.slice va d.waits.length vc) d.waits.length (chCells d.waits)) := hide (by rw [← HWV.out, ← HL2.out.1]; exact HD2.out.waits)
    go_wp2_with (at_builtin; refine (fun (h : True → _) => h trivial) ?_)
    intro _
    refine wpList_append_rch W2 rfl _ _ rfl (.slice va d.waits.length vc) d.waits rfl HWR.out (.give n d.files.length) rfl HLN.out ?_
    intro v3 w3 hr3 hg3 hv3
    obtain ⟨hB1, hB2, t3, s3⟩ := HD2.out.addWait (c := .give n d.files.length) hr3 (by rw [HL2.out.1, HWV.out]; exact hg3) (by rw [HL2.out.1, HWV.out]; exact hv3)
    rw [HL2.out.1, HWV.out] at t3
    obtain ⟨D, hD⟩ : ∃ D, D = freshD d n := ⟨_, rfl⟩
    obtain ⟨L3, hL3⟩ : ∃ L3, L3 = { L2 with wv := v3 } := ⟨_, rfl⟩
    obtain ⟨W3, hW3⟩ : ∃ W3, W3 = w3.setCell ⟨p, 3, none⟩ v3 := ⟨_, rfl⟩
    obtain ⟨G, hG⟩ : ∃ G, G = Gr (Gr F w1 w2) W2 w3 := ⟨_, rfl⟩
    rw [← hL3, ← hW3, ← hG] at hB1
    rw [← hW3] at hB2
    have HD3 : Hid (RefL G W3 p L3 D) := hide (by rw [hD]; exact hB1)
    have HW3 := hide hW3
    have HPL : Hid (PwR L3 D.power ∧ I64 L3.left ∧ D.power ≠ 0 ∧ I64 D.room ∧ I64 D.power) := hide (by
      rw [hD, hL3]
      refine ⟨?_, ?_, HZ.out, HI.out.1, HI.out.2⟩
      · show L2.out = _ ∧ (_ → L2.armed = _ ∧ (_ → L2.left = _))
        rw [HL2.out.2.1, HL2.out.2.2.1, HL2.out.2.2.2]
        exact HP.out
      · show I64 L2.left
        rw [HL2.out.2.2.2]
        exact HLE.out)
    have HON3 : Hid (Only F w' W3) := hide ((((Only.ofBelow HB1.out).trans HON2.out (fun _ _ hf => hf))).trans hB2 (fun k hk hf => by
      rcases hf with hf | hf
      · exact hf
      · have := HB1.out.size
        omega))
    have HGF : Hid (∀ k, G k → F k ∨ w'.heap.size ≤ k) := hide (fun k hk => by
      rw [hG] at hk
      have h1 := HB1.out.size
      have h2 := HG2.out
      have h3 := HON2.out.size
      rcases hk with (hk | hk) | hk
      · exact .inl hk
      · exact .inr (by omega)
      · exact .inr (by omega))
    have HGS : Hid (w'.heap.size ≤ W3.heap.size) := hide HON3.out.size
    have HRX3 : Hid (Rd W3 (.slice ao b.length cap) b) := hide (HRD.out.onlyE HON3.out HVB.out)
    have HOKD : Hid (OkD D) := hide (by rw [hD]; exact HOK.out.fresh HMN.out)
    have HBND : Hid (Bnd D (N + 1) T) := hide (by rw [hD]; exact HBN.out.fresh n)
    have hfl3 : D.files.length ≤ 900001 := by have := HBND.out.files; omega
    obtain ⟨f, hf0⟩ : ∃ f, f = d.files.length := ⟨_, rfl⟩
    have hf : f < D.files.length := by rw [hD, hf0]; simp [freshD]
    have hfb : f ≤ 900000 := by omega
    have HDF : Hid (D = freshD d n ∧ f = d.files.length) := hide ⟨hD, hf0⟩
    obtain ⟨a8, n8, c8, hv8⟩ : ∃ a b c, v3 = .slice a b c := by
      rcases hr3.2 with ⟨hv, hn⟩ | ⟨g, cap, cur, hv, _⟩
      · exact ⟨_, _, _, hv⟩
      · exact ⟨_, _, _, hv⟩
    subst hv8
    clear hB1 hB2 hr3 hg3 hv3 hW3 hL3 hG hD
    go_upto_region 13 with fail
    rw [← HW3.out, ← hf0]
    clear HW3 t3 s3 k3 j3 hf0 hfl2
    have HBD : Hid (Below W3.heap.size W3 W3.drew) := hide ((Below.refl _ W3).drew)
    have HRD3 := hide (HD3.out.below HBD.out)
    have HBY : Hid ((fl D.files f).b.length ≤ T) := hide (HBND.out.bytes _ (mem_fl hf))
    have HX := hide (HRD3.out.file f hf)
    have k1 : W3.drew.cell? ⟨p, 1, none⟩ = some L3.fv := HRD3.out.cells.1.2.1
    obtain ⟨fg, fo, fc, hfv, hfc⟩ := HRD3.out.fileCell hf
    rw [hfv] at k1
    obtain ⟨va, vc, hvs⟩ := HX.out.own.shape
    have g0 : W3.drew.cell? ⟨L3.ps f, 0, none⟩ = some (.slice va (fl D.files f).b.length vc) := by rw [← hvs]; exact (HX.out.box.cell 0 rfl).1
    have y0 : W3.drew.frozen? ⟨L3.ps f, 0, none⟩ = false := (HX.out.box.cell 0 rfl).2
    have HOD : Hid (Own W3.drew 0 (.slice va (fl D.files f).b.length vc) (fl D.files f).b) := hide (by rw [← hvs]; exact HX.out.own)
    have HRX : Hid (Rd W3.drew (.slice ao b.length cap) b) := hide (HRX3.out.below HBD.out (Nat.le_refl _))
    have HLM : Hid ((fl D.files f).b.length + b.length ≤ 70368744177664) := hide (by have := HBY.out; omega)
    have HGR : Hid (∀ v' W', Own W' 0 v' ((fl D.files f).b ++ b) → W3.drew.grownBy W' (Value.slice va (fl D.files f).b.length vc).ownBlock → (v'.ownBlock = (Value.slice va (fl D.files f).b.length vc).ownBlock ∨ v'.ownBlock = some W3.drew.heap.size) →
        (RefL (Gr G W3.drew W') (W'.setCell ⟨L3.ps f, 0, none⟩ v') p { L3 with vs := fun i => if i = f then v' else L3.vs i } { D with files := growF D.files f b } ∧ Only G W3.drew (W'.setCell ⟨L3.ps f, 0, none⟩ v')) ∧ W'.cell? ⟨p, 1, none⟩ = some (.slice (some ⟨fg, fo, none⟩) D.files.length fc) ∧ W'.cell? ⟨fg, fo + f, none⟩ = some (ptr (L3.ps f)) ∧ W'.cell? ⟨L3.ps f, 0, none⟩ = some (.slice va (fl D.files f).b.length vc) ∧ W'.frozen? ⟨L3.ps f, 0, none⟩ = false) := hide (fun v' W' ho' hg' hl' => by
      rw [← hvs] at hg' hl'
      have hne : ∀ {t : TypeId} {k : Nat} {cs : Array Value}, Bk t W3.drew k cs → t ≠ 5 → Bk t W' k cs := fun hb ht => hb.keep (hg'.block _ hb.lt fun e => by
        obtain ⟨cs', hb'⟩ := ownBkS HX.out.own e.symm
        exact (hb.ne hb' ht) rfl)
      have hh := hne HRD3.out.head (by decide)
      have hx := hne HX.out.box (by decide)
      refine ⟨HRD3.out.grow hf ho' hg' hl', by rw [← hfv]; exact (hh.cell 1 rfl).1, ?_, by rw [← hvs]; exact (hx.cell 0 rfl).1, (hx.cell 0 rfl).2⟩
      obtain ⟨cs', hb'⟩ := ownBkS HRD3.out.files (g := fg) (by rw [hfv]; rfl)
      exact (World.cell?_of_block (a := ⟨fg, fo + f, none⟩) ((hne hb' (by decide)).trans hb'.symm)).trans hfc)
    clear hfv hvs
    go_region_law (refine step_append_rdl (by rfl) _ _ (by rfl) (.slice va (fl D.files f).b.length vc) (fl D.files f).b (by rfl) HOD.out (.slice ao b.length cap) b (by rfl) HRX.out HLM.out ?_; intro v9 W9 ho9 hg9 hl9; obtain ⟨hA, t1, t2, t3, s3⟩ := HGR.out v9 W9 ho9 hg9 hl9; have HA9 := hide hA; obtain ⟨z1, z3, z2, hz⟩ : ∃ a n c, v9 = Value.slice a n c := (by obtain ⟨a, c, h⟩ := ho9.shape; exact ⟨_, _, _, h⟩); subst hz; clear hA ho9 hg9 hl9)
    all_goals
      have HD1 := hide HA9.out.1
      have HON1 := hide HA9.out.2
      go_wp2_with fail
      refine (refDid_any _ HD1.out HPL.out.1 HPL.out.2.2.1 HPL.out.2.2.2.2).mono ?_
      rintro e W4 ⟨rfl, hd4, hon4⟩
      have HD4 := hide hd4
      have HON4 := hide hon4
      clear hd4 hon4
      go_wp2
      go_ret
      have hfin := RDid.of (F := F) (w := w') (d' := { D with files := growF D.files f b }) (L := L3) (N := N + 2) (T := T + b.length) ((HON3.out.trans (Only.ofBelow HBD.out) (fun _ _ hf => hf)).trans HON1.out (fun k hk hf => by
        rcases HGF.out k hf with h | h
        · exact h
        · omega)) (fun k hk => ?_) HD4.out HON4.out HPL.out.2.1 (HOKD.out.appendTo f b) ((HBND.out.grow f b _).mono (by omega) (Nat.le_refl _)) HPL.out.2.2.2.1 HPL.out.2.2.2.2
      · rw [HDF.out.1, HDF.out.2] at hfin
        exact hfin
      · rcases hk with hk | hk
        · exact HGF.out k hk
        · exact .inr (by have := HGS.out; have := HBD.out.size; omega)

end Go.Proofs.Ytfhgjnfichgdiaa
