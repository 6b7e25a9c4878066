import Derived.Test.YtpopbandpnaicaaGreatDoorStoreL
namespace Go.Proofs.YtpopbandpnaicaaGreatDoor
open Go.RowKit

set_option maxRecDepth 100000 in
set_option maxHeartbeats 8000000 in
theorem appendS_any {K : Nat -> Prop} {pd p : Nat} {s : Sto} {d : Dk} {N T : Nat} (vl : Value) (l : List Rec) (w : World) (h : SD K w pd p s d N T) (hK : ∀ k, K k -> k < w.heap.size) (hok : OkS s) (hr : RdR w vl l) (hvl : l = [] ∨ ∀ k, vl.ownBlock = some k -> K k)
   (hpl : s.log.pcs.length <= 500000) (hrl : s.log.recs.length <= 5000000) (hN : N <= 900000) (hT : T <= 900000000) :
   Calls Tryz.prog 24 #[ptr p, vl] w fun e w' => SDid K w pd p (appendS l (s, d)) (N + 2) (T + 30000) e w' := by
 have HFT := hide (blockFitsB_any vl l w hr)
 have HS := hide h
 have HK := hide hK
 have HNX : Hid (∀ W, Below w.heap.size w W -> Calls Tryz.prog 16 #[ptr p] W fun e w' => e = .returned (.int .i64 s.next) ∧ Below w.heap.size w w') := hide (fun W hW => ((HS.out.below hW).next hok.num).mono (by
   rintro e w' ⟨rfl, hb⟩
   exact ⟨rfl, hW.trans (hb.mono hW.size)⟩))
 obtain ⟨res, hres⟩ : ∃ res, res = appendS l (s, d) := ⟨_, rfl⟩
 rw [<- hres]
 have HRES := hide hres
 have HSM : Hid (∀ W c, Below w.heap.size w W -> SDid K w pd p ((s, d), c) (N + 2) (T + 30000) (.returned (.int .i64 c)) W) := hide (fun W c hW => ⟨rfl, (HS.out.below hW).mono (by omega) (by omega), Only.ofBelow hW⟩)
 by_cases hf : FitsB l
 case neg =>
   rw [decide_eq_false hf] at HFT
   have HR : Hid (res = ((s, d), 1)) := hide (by rw [HRES.out]; unfold appendS; rw [if_pos hf])
   obtain ⟨ra, rc, rfl, -⟩ := hr
   clear h hK hok hvl hres hf
   go_enter Tryz.func24, Tryz.ntmps24
   go_wp2_with fail
   refine HFT.out.mono ?_
   rintro e W1 ⟨rfl, hb1⟩
   have HB1 := hide hb1
   clear hb1
   go_wp2
   go_ret
   rw [HR.out]
   exact HSM.out W1 1 HB1.out
 rw [decide_eq_true hf] at HFT
 have HRD := hide hr
 have HVL := hide hvl
 have hl1 : 1 <= l.length := hf.1
 have hl2 : l.length <= 256 := hf.2.1
 obtain ⟨ra, rc, rfl, hlc, hcm, -, hrok, hrc⟩ := hr
 rcases hrc with h0 | ⟨b, off, rfl, hcell⟩
 · rw [h0] at hl1; simp at hl1
 have hix : l.getD 0 zeroR = l.headD zeroR := by cases l <;> rfl
 have HIX : Hid (∀ W, Below w.heap.size w W -> W.cell? ⟨b, off, none⟩ = some (.int .i64 (l.headD zeroR).idx)) := hide (fun W hW => by
   have hc := (hcell 0 (by omega)).keep (hW.block b (hcell 0 (by omega)).lt)
   have h1 := hc.1
   rw [hix, Nat.zero_mul, Nat.add_zero] at h1
   exact h1)
 have HSD : Hid (∀ W, Below w.heap.size w W -> Below w.heap.size w W.drew) := hide (fun W hW => hW.drew)
 by_cases hx : (l.headD zeroR).idx = s.next
 case neg =>
   have HR : Hid (res = ((s, d), 15)) := hide (by rw [HRES.out]; unfold appendS; rw [if_neg (fun hh => hh hf), if_pos hx])
   have hxb : ((l.headD zeroR).idx != s.next) = true := by rw [bne_iff_ne]; exact hx
   have hli : (0 : Int) < (l.length : Int) := by omega
   generalize s.next = nx at *
   generalize (l.headD zeroR).idx = ix at *
   clear h hK hok hvl hres hf hcell hix hrok hx
   go_enter Tryz.func24, Tryz.ntmps24
   go_wp2_with fail
   refine HFT.out.mono ?_
   rintro e W1 ⟨rfl, hb1⟩
   have HB1 := hide hb1
   have HSD1 := hide (HSD.out W1 hb1)
   clear hb1
   go_upto_region 3 with fail
   go_cut [12] (fun v wc => v = .bool true ∧ Hid (Below w.heap.size w wc))
   case first =>
     go_region_held (fun W => W.cell? ⟨b, off, none⟩ = some (.int .i64 ix))
       (first | (with_reducible exact HIX.out _ HSD1.out) | (with_reducible exact HIX.out _ HB2.out))
       (first | (go_at_call 16; refine (HNX.out _ HSD1.out).mono ?_; rintro e W2 ⟨rfl, hb2⟩; have HB2 := hide hb2; clear hb2))
     all_goals
       go_wp2_with fail
       go_meet
       exact ⟨by first | rfl | (rw [hxb]), HB2⟩
   case rest =>
     obtain ⟨rfl, HB⟩ := hcut
     go_wp2
     go_ret
     rw [HR.out]
     exact HSM.out _ 15 HB.out
 have hxb : ((l.headD zeroR).idx != s.next) = false := by rw [hx]; simp
 have hfh : FitsR (l.headD zeroR) := by
   rw [<- hix]
   rw [show l.getD 0 zeroR = l[0]'(by omega) by simp [List.getD, show 0 < l.length by omega]]
   exact hf.2.2.1 _ (List.getElem_mem _)
 have hnx0 : 0 <= s.next := by rw [<- hx]; exact hfh.2.1
 have hnx1 : s.next < 4611686018427387904 := by rw [<- hx]; exact hfh.2.2.1
 have hkd : 0 <= s.now.st.kind ∧ s.now.st.kind < 6 := ⟨hok.now.1.2.2.2.1, hok.now.1.2.2.2.2.1⟩
 have hBl := bytesA_len hf hkd hnx1
 obtain ⟨nm, hnm⟩ : ∃ nm, nm = nameA s d := ⟨_, rfl⟩
 obtain ⟨BA, hBA⟩ : ∃ BA, BA = bytesA s l := ⟨_, rfl⟩
 obtain ⟨⟨D, c⟩, hD⟩ : ∃ r, r = appendD d nm BA := ⟨_, rfl⟩
 have hnmi : I64 nm := by
   rw [hnm]
   unfold nameA
   split
   · obtain ⟨F, M, I, L, ⟨L1, g1, g2, -⟩, -⟩ := h
     exact nextName_i64 g2 2 (by decide) (by decide)
   · exact hok.cu
 have HR0 : Hid (res = if c = 0 then ((appendedS s nm l, D), 0) else ((s, D), c)) := hide (by
   rw [HRES.out]
   unfold appendS
   rw [if_neg (fun hh => hh hf), if_neg (fun hh => hh hx)]
   dsimp only
   rw [<- hnm, <- hBA, <- hD])
 have HBF : Hid (∀ W, Below w.heap.size w W -> Calls Tryz.prog 53 #[.slice (some ⟨b, off, none⟩) l.length rc] W fun e w' => ∃ v', e = .returned v' ∧ Own w' w.heap.size v' (frameOf (encB l)) ∧ Below w.heap.size w w') := hide (fun W hW => (blockFrame_any _ l W (HRD.out.below hW (Nat.le_refl _)) hf (by have := encB_lenS hf; omega)).mono (by
   rintro e w' ⟨v', rfl, ho, hb⟩
   exact ⟨v', rfl, ho.mono hW.size, hW.trans (hb.mono hW.size)⟩))
 have HCE : Hid (∀ W, Below w.heap.size w W -> W.cell? ⟨p, 0, none⟩ = some (ptr pd) ∧ W.cell? ⟨p, 12, none⟩ = some (.int .i64 s.cur)) := hide (fun W hW => by
   obtain ⟨⟨c0, -, c12, -⟩, -⟩ := (HS.out.below hW).cells
   exact ⟨c0, c12⟩)
 have HAP : Hid (∀ vB W, Own W w.heap.size vB BA -> Below w.heap.size w W -> Calls Tryz.prog 29 #[ptr pd, .int .i64 nm, vB] W fun e w' => e = .returned (.int .i64 c) ∧ SD K w' pd p s D (N + 2) (T + 30000) ∧ Only (fun k => ¬ K k) w w') := hide (fun vB W ho hW => by
   refine ((HS.out.fresh hW).disk (c := c) (d' := D) (N' := N + 2) (T' := T + 30000) (fun k hk => ?_) (fun F hF hFK => ?_)).mono ?_
   · rcases hk with hk | hk
     · exact Nat.lt_of_lt_of_le (HK.out k hk) hW.size
     · exact hk.2
   · have := append_any nm hnmi vB BA W hF ho.rd (.inr fun k hk hf => hFK k hf (.inr ⟨(World.ownsRow.lt ho k hk).1, (World.ownsRow.lt ho k hk).2⟩)) (by omega) (by omega) (by rw [hBA]; omega)
     rw [<- hD] at this
     refine this.mono ?_
     rintro e w' ⟨g0, F', g1, g2⟩
     exact ⟨g0, F', g1.mono (Nat.le_refl _) (by rw [hBA]; omega), g2⟩
   · rintro e w' ⟨he, hs, ho2⟩
     exact ⟨he, hs.less (fun k hk => .inl hk), (Only.ofBelow hW).trans (ho2.mono (fun k hk hn => hk (.inl hn))) (fun _ _ hh => hh)⟩)
 have HRK : Hid (∀ W, Only (fun k => ¬ K k) w W -> RdR W (.slice (some ⟨b, off, none⟩) l.length rc) l ∧ ∀ k, K k -> k < W.heap.size) := hide (fun W ho => ⟨HRD.out.keepK HVL.out ho, fun k hk => Nat.lt_of_lt_of_le (HK.out k hk) ho.size⟩)
 have HOK := hide hok
 have HLM := hide (And.intro hpl hrl)
 have HLL := hide (And.intro hl1 hl2)
 have hli : (0 : Int) < (l.length : Int) := by omega
 have hli2 : (l.length : Int) <= 256 := by omega
 by_cases hcu : s.cur = 0
 · have hcb : (s.cur == 0) = true := by rw [hcu]; rfl
   have HNM : Hid (nm = nextName d 2) := hide (by rw [hnm]; unfold nameA; rw [if_pos hcu])
   have HBA : Hid (BA = frameOf (headS 3 s.now.st.kind.toNat s.next.toNat) ++ frameOf (encB l)) := hide (by rw [hBA]; unfold bytesA; rw [if_pos hcu])
   have HLB : Hid ((frameOf (headS 3 s.now.st.kind.toNat s.next.toNat)).length + (frameOf (encB l)).length <= 70368744177664) := hide (by
     rw [<- List.length_append, <- HBA.out, hBA]
     omega)
   have HNN : Hid (∀ W, Below w.heap.size w W -> Calls Tryz.prog 54 #[ptr p, .int .i64 2] W fun e w' => e = .returned (.int .i64 nm) ∧ Below w.heap.size w w' ∧ Below W.heap.size W w') := hide (fun W hW => by
     obtain ⟨F, M, I, L, h1, h2, -⟩ := HS.out.below hW
     rw [HNM.out]
     refine (nextName_any 2 W h2 h1 (by omega) (by decide) (by decide)).mono ?_
     rintro e w' ⟨rfl, hb⟩
     exact ⟨rfl, hW.trans (hb.mono hW.size), hb⟩)
   have HHF : Hid (∀ W, Below w.heap.size w W -> Calls Tryz.prog 55 #[ptr p] W fun e w' => ∃ v', e = .returned v' ∧ Own w' w.heap.size v' (frameOf (headS 3 s.now.st.kind.toNat s.next.toNat)) ∧ Below w.heap.size w w' ∧ Below W.heap.size W w') := hide (fun W hW => by
     obtain ⟨F, M, I, L, h1, h2, -⟩ := HS.out.below hW
     refine (headFrame_any W h2 hok.num hkd hnx1 hnx0).mono ?_
     rintro e w' ⟨v', rfl, ho, hb⟩
     exact ⟨v', rfl, ho.mono hW.size, hW.trans (hb.mono hW.size), hb⟩)
   have HFIN : Hid (∀ W, SD K W pd p { s with log := (s.log.start nm s.next).add l, now := (takeN s.now l).1, cur := nm, nw := true } D (N + 2) (T + 30000) -> Only (fun k => ¬ K k) w W -> c = 0 -> SDid K w pd p res (N + 2) (T + 30000) (.returned (.int .i64 0)) W) := hide (fun W hs ho hc => by
     rw [HR0.out, if_pos hc]
     refine ⟨rfl, ?_, ho⟩
     have e1 : appendedS s nm l = { s with log := (s.log.start nm s.next).add l, now := (takeN s.now l).1, cur := nm, nw := true } := by unfold appendedS; rw [if_pos hcu, if_pos hcu]
     rw [e1]
     exact hs)
   have HERR : Hid (∀ W, SD K W pd p s D (N + 2) (T + 30000) -> Only (fun k => ¬ K k) w W -> c ≠ 0 -> SDid K w pd p res (N + 2) (T + 30000) (.returned (.int .i64 c)) W) := hide (fun W hs ho hc => by
     rw [HR0.out, if_neg hc]
     exact ⟨rfl, hs, ho⟩)
   have HPC : Hid (s.cur ≠ 0 -> s.log.pcs.length ≠ 0) := hide hok.cur
   have HCU := hide hcu
   obtain ⟨nx, hnx⟩ : ∃ nx, nx = s.next := ⟨_, rfl⟩
   obtain ⟨ix, hixx⟩ : ∃ ix, ix = (l.headD zeroR).idx := ⟨_, rfl⟩
   rw [<- hnx] at HNX hxb
   rw [<- hixx] at HIX hxb
   have HNE := hide hnx
   obtain ⟨cu, hcu2⟩ : ∃ cu, cu = s.cur := ⟨_, rfl⟩
   rw [<- hcu2] at HCE hcb
   have HCU2 := hide hcu2
   clear hcu2
   clear h hK hok hvl hres hf hcell hix hrok hx hnx hixx hD hBA hnm hcu HRES HR0 hfh hBl hnmi hkd hnx0 hnx1 hpl hrl hlc hcm hl1 hl2 HSM
   go_enter Tryz.func24, Tryz.ntmps24
   go_wp2_with fail
   refine HFT.out.mono ?_
   rintro e W1 ⟨rfl, hb1⟩
   have HB1 := hide hb1
   have HSD1 := hide (HSD.out W1 hb1)
   clear hb1
   go_upto_region 3 with fail
   go_cut [12] (fun v wc => v = .bool false ∧ Hid (Below w.heap.size w wc))
   case first =>
     go_region_held (fun W => W.cell? ⟨b, off, none⟩ = some (.int .i64 ix))
       (first | (with_reducible exact HIX.out _ HSD1.out) | (with_reducible exact HIX.out _ HB2.out))
       (first | (go_at_call 16; refine (HNX.out _ HSD1.out).mono ?_; rintro e W2 ⟨rfl, hb2⟩; have HB2 := hide hb2; clear hb2))
     all_goals
       go_wp2_with fail
       go_meet
       exact ⟨by first | rfl | (rw [hxb]), HB2⟩
   case rest =>
   obtain ⟨W2, rfl⟩ : ∃ W, W = wc := ⟨_, rfl⟩
   obtain ⟨rfl, HB2⟩ := hcut
   have HSD2 := hide (HSD.out W2 HB2.out)
   go_upto_region 5 with fail
   go_cut [5, 6] (fun v5 v6 wc => v5 = .int .i64 cu ∧ (∃ a n c, v6 = .slice a n c) ∧ Hid (Own wc w.heap.size v6 (frameOf (encB l))) ∧ Hid (Below w.heap.size w wc))
   case first =>
     go_region_held (fun W => W.cell? ⟨p, 12, none⟩ = some (.int .i64 cu))
       (first | (with_reducible exact (HCE.out _ HSD2.out).2) | (with_reducible exact (HCE.out _ HB3.out).2))
       (first | (go_at_call 53; refine (HBF.out _ HSD2.out).mono ?_; rintro e W3 ⟨v3, rfl, ho3, hb3⟩; have HO3 := hide ho3; have HB3 := hide hb3; obtain ⟨z1, z2, z3, hz⟩ : ∃ a n c, v3 = Value.slice a n c := (by obtain ⟨a, c, hh⟩ := ho3.shape; exact ⟨a, _, c, hh⟩); subst hz; clear ho3 hb3))
     all_goals
       go_wp2_with fail
       go_meet
       exact ⟨rfl, ⟨_, _, _, rfl⟩, HO3, HB3⟩
   case rest =>
   obtain ⟨W3, rfl⟩ : ∃ W, W = wc := ⟨_, rfl⟩
   obtain ⟨rfl, ⟨z1, z2, z3, rfl⟩, HO3, HB3⟩ := hcut
   obtain ⟨q0, q12⟩ := HCE.out W3 HB3.out
   go_wp2_with fail
   refine (HNN.out W3 HB3.out).mono ?_
   rintro e W4 ⟨rfl, hb4, hb34⟩
   have HB4 := hide hb4
   have HB34 := hide hb34
   clear hb34
   have HO4 : Hid (Own W4 w.heap.size (.slice z1 z2 z3) (frameOf (encB l))) := hide (HO3.out.below (show Below W3.heap.size W3 W4 from HB34.out) (Nat.le_refl _))
   clear hb4 q0 q12
   go_wp2_with fail
   refine (HHF.out W4 HB4.out).mono ?_
   rintro e W5 ⟨v5, rfl, ho5, hb5, hb45⟩
   have HB5 := hide hb5
   have HB45 := hide hb45
   clear hb45
   have HO5 := hide ho5
   have HR5 : Hid (Rd W5 (.slice z1 z2 z3) (frameOf (encB l))) := hide (HO4.out.rd.below (show Below W4.heap.size W4 W5 from HB45.out) (Nat.le_refl _))
   have HSZ5 : Hid (w.heap.size <= W5.heap.size) := hide hb5.size
   obtain ⟨y1, y2, y3, hy⟩ : ∃ a n c, v5 = Value.slice a n c := by
     obtain ⟨a, c, hh⟩ := ho5.shape
     exact ⟨a, _, c, hh⟩
   subst hy
   clear ho5 hb5
   go_wp2_with (at_builtin; refine wpList_append_rd _ rfl _ _ rfl w.heap.size _ _ rfl HO5.out _ (frameOf (encB l)) rfl HR5.out HLB.out HSZ5.out ?_)
   intro v6 W6 ho6 hb6
   rw [<- HBA.out] at ho6
   have HO6 := hide ho6
   have HB6 : Hid (Below w.heap.size w W6) := hide (HB5.out.trans hb6)
   obtain ⟨x1, x2, x3, hxx⟩ : ∃ a n c, v6 = Value.slice a n c := by
     obtain ⟨a, c, hh⟩ := ho6.shape
     exact ⟨a, _, c, hh⟩
   subst hxx
   obtain ⟨q0, q12⟩ := HCE.out W6 HB6.out
   clear ho6 hb6
   go_wp2_with fail
   refine (HAP.out _ W6 HO6.out HB6.out).mono ?_
   rintro e W7 ⟨rfl, hs7, ho7⟩
   have HS7 := hide hs7
   have HO7 := hide ho7
   obtain ⟨⟨-, -, k12, k13⟩, kf⟩ := hs7.cells
   clear hs7 ho7 q0 q12
   by_cases hc : c = 0
   case neg =>
     have hcb2 : (c != 0) = true := by rw [bne_iff_ne]; exact hc
     have HE := hide (HERR.out W7 HS7.out HO7.out hc)
     clear hc kf k12 k13
     go_wp2
     go_ret
     exact HE.out
   have HC0 := hide hc
   subst hc
   rw [<- HCU2.out] at k12
   have HN7 := hide (HS7.out.next HOK.out.num)
   rw [<- HNE.out] at HN7
   have HBG : Hid (∀ W, Below W7.heap.size W7 W -> Calls Tryz.prog 56 #[.pointer (some ⟨p, 1, none⟩), .int .i64 nm, .int .i64 nx] W fun e w' => e = .returned (.tuple #[]) ∧ SD K w' pd p { s with log := s.log.start nm s.next } D (N + 2) (T + 30000) ∧ Only (fun k => ¬ K k) w w') := hide (fun W hW => by
     have hb := (HS7.out.below hW).begin (fun k hk => Nat.lt_of_lt_of_le ((HRK.out W7 HO7.out).2 k hk) hW.size) nm nx (by have := HLM.out.1; omega)
     rw [HNE.out] at hb ⊢
     refine hb.mono ?_
     rintro e w' ⟨he, h2, h3⟩
     exact ⟨he, h2, (HO7.out.trans (Only.ofBelow (F := fun _ => False) hW) (fun _ _ h => h.elim)).trans h3 (fun _ _ h => h)⟩)
   have HSD7 : Hid (Below W7.heap.size W7 W7.drew) := hide (Below.refl _ _).drew
   have HNX7 : Hid (∀ W, Below W7.heap.size W7 W -> Calls Tryz.prog 16 #[ptr p] W fun e w' => e = .returned (.int .i64 nx) ∧ Below W7.heap.size W7 w') := hide (fun W hW => by
     rw [HNE.out]
     refine ((HS7.out.below hW).next HOK.out.num).mono ?_
     rintro e w' ⟨rfl, hb⟩
     exact ⟨rfl, hW.trans (hb.mono hW.size)⟩)
   go_upto_region 12 with fail
   go_cut [] (fun wc => Hid (SD K wc pd p { s with log := s.log.start nm s.next } D (N + 2) (T + 30000) ∧ Only (fun k => ¬ K k) w wc))
   case first =>
     go_region_with
       (first
         | (go_at_call 16; refine (HNX7.out _ (by first | exact HSD7.out | exact Below.refl _ _)).mono ?_; rintro e W8 ⟨rfl, hb8⟩; have HB8 := hide hb8; clear hb8)
         | (go_at_call 56; refine (HBG.out W8 HB8.out).mono ?_; rintro e W9 ⟨rfl, hs9, ho9⟩; have HS9 := hide (And.intro hs9 ho9); clear hs9 ho9))
     all_goals
       go_wp2_with fail
       go_meet
       exact HS9
   case rest =>
   obtain ⟨W9, rfl⟩ : ∃ W, W = wc := ⟨_, rfl⟩
   have HS9 := hcut
   clear hcut kf k12 k13
   obtain ⟨⟨-, -, k12, k13⟩, kf⟩ := HS9.out.1.cells
   have f12 := kf 12
   have f13 := kf 13
   have HS10 := hide (((HS9.out.1.setHead (s' := { s with log := s.log.start nm s.next, cur := nm }) (HRK.out W9 HS9.out.2).2 12 (.int .i64 nm) rfl rfl rfl (fun _ => rfl))))
   have HS11 := hide (HS10.out.1.setHead (s' := { s with log := s.log.start nm s.next, cur := nm, nw := true }) (fun k hk => by have := (HRK.out W9 HS9.out.2).2 k hk; simpa using this) 13 (.bool true) rfl rfl rfl (fun _ => rfl))
   obtain ⟨WA, hWA⟩ : ∃ WA, WA = (W9.setCell ⟨p, 12, none⟩ (.int .i64 nm)).setCell ⟨p, 13, none⟩ (.bool true) := ⟨_, rfl⟩
   have HSA : Hid (SD K WA pd p { s with log := s.log.start nm s.next, cur := nm, nw := true } D (N + 2) (T + 30000) ∧ Only (fun k => ¬ K k) w WA) := hide (by rw [hWA]; exact ⟨HS11.out.1, (HS9.out.2.trans HS10.out.2 (fun _ _ h => h)).trans HS11.out.2 (fun _ _ h => h)⟩)
   have hcur9 : ({ s with log := s.log.start nm s.next } : Sto).cur = cu := HCU2.out.symm
   rw [hcur9] at k12
   have hnw9 : ({ s with log := s.log.start nm s.next } : Sto).nw = s.nw := rfl
   rw [hnw9] at k13
   clear hcur9 hnw9 kf
   go_upto_region 14 with fail
   rw [<- hWA]
   clear hWA k12 k13 f12 f13 HS9 HS10 HS11
   have HAD := hide (HSA.out.1.add (HRK.out WA HSA.out.2).2 _ l (HRK.out WA HSA.out.2).1 (by simp [Lgb.start]) (by have := HLM.out.1; simp [Lgb.start]; omega) (by have := HLM.out.2; have := HLL.out.2; show s.log.recs.length + l.length <= _; omega) (fun q hq => by
     have hok2 := HOK.out.log.start nm s.next (by have := HOK.out.log.f0; have := chainP_le HOK.out.log.ch; show 0 <= s.log.next; omega) HOK.out.log.top (.inr rfl)
     have := chainP_mem hok2.ch q hq
     have := hok2.f0
     have := hok2.top
     omega))
   go_wp2_with fail
   refine HAD.out.mono ?_
   rintro e WB ⟨rfl, hsB, hoB⟩
   have HSB : Hid (SD K WB pd p { s with log := (s.log.start nm s.next).add l, cur := nm, nw := true } D (N + 2) (T + 30000)) := hide hsB
   have HOB : Hid (Only (fun k => ¬ K k) w WB) := hide (HSA.out.2.trans hoB (fun _ _ h => h))
   clear hsB hoB HAD
   obtain ⟨la, ln, lc, ta, tn, tc, ⟨c5, c6, c7, c8, c9, c10⟩, hTK⟩ := HSB.out.takes (HRK.out WB HOB.out).2 HOK.out.now _ l (HRK.out WB HOB.out).1 (by have := HLL.out.2; omega)
   have HTK := hide hTK
   clear hTK
   dsimp only at c5 c6 c8 c9 HTK
   go_wp2_with fail
   refine HTK.out.mono ?_
   rintro e WC ⟨xa, xn, xc, ua, un, uc, rfl, ⟨e5, e6, e7, e8, e9, e10⟩, fz, hsC, hoC⟩
   have HFF := hide (HFIN.out _ hsC (HOB.out.trans hoC (fun _ _ h => h)) (by first | rfl | trivial))
   have f5 := fz 5
   have f6 := fz 6
   have f7 := fz 7
   have f8 := fz 8
   have f9 := fz 9
   have f10 := fz 10
   clear hsC hoC fz c5 c6 c7 c8 c9 c10 HTK
   generalize takeN s.now l = tk at *
   go_wp2
   go_ret
   exact HFF.out
 · have hcb : (s.cur == 0) = false := beq_eq_false_iff_ne.2 hcu
   have HNM : Hid (nm = s.cur) := hide (by rw [hnm]; unfold nameA; rw [if_neg hcu])
   have HBA : Hid (BA = frameOf (encB l)) := hide (by rw [hBA]; unfold bytesA; rw [if_neg hcu])
   rw [<- HBA.out] at HBF
   rw [<- HNM.out] at HCE
   have HFIN : Hid (∀ W, SD K W pd p { s with log := s.log.add l, now := (takeN s.now l).1 } D (N + 2) (T + 30000) -> Only (fun k => ¬ K k) w W -> c = 0 -> SDid K w pd p res (N + 2) (T + 30000) (.returned (.int .i64 0)) W) := hide (fun W hs ho hc => by
     rw [HR0.out, if_pos hc]
     refine ⟨rfl, ?_, ho⟩
     have e1 : appendedS s nm l = { s with log := s.log.add l, now := (takeN s.now l).1 } := by unfold appendedS; rw [if_neg hcu, if_neg hcu, HNM.out]
     rw [e1]
     exact hs)
   rw [<- HNM.out] at hcb
   have HERR : Hid (∀ W, SD K W pd p s D (N + 2) (T + 30000) -> Only (fun k => ¬ K k) w W -> c ≠ 0 -> SDid K w pd p res (N + 2) (T + 30000) (.returned (.int .i64 c)) W) := hide (fun W hs ho hc => by
     rw [HR0.out, if_neg hc]
     exact ⟨rfl, hs, ho⟩)
   have HPC : Hid (s.cur ≠ 0 -> s.log.pcs.length ≠ 0) := hide hok.cur
   have HCU := hide hcu
   obtain ⟨nx, hnx⟩ : ∃ nx, nx = s.next := ⟨_, rfl⟩
   obtain ⟨ix, hixx⟩ : ∃ ix, ix = (l.headD zeroR).idx := ⟨_, rfl⟩
   rw [<- hnx] at HNX hxb
   rw [<- hixx] at HIX hxb
   have HNE := hide hnx
   obtain ⟨cu, hcu2⟩ : ∃ cu, cu = nm := ⟨_, rfl⟩
   have HCV : Hid (s.cur = cu) := hide (by rw [hcu2, HNM.out])
   rw [<- hcu2] at HCE hcb HAP
   clear hcu2
   clear h hK hok hvl hres hf hcell hix hrok hx hnx hixx hD hBA hnm hcu HRES HR0 hfh hBl hnmi hkd hnx0 hnx1 hpl hrl hlc hcm hl1 hl2 HSM
   go_enter Tryz.func24, Tryz.ntmps24
   go_wp2_with fail
   refine HFT.out.mono ?_
   rintro e W1 ⟨rfl, hb1⟩
   have HB1 := hide hb1
   have HSD1 := hide (HSD.out W1 hb1)
   clear hb1
   go_upto_region 3 with fail
   go_cut [12] (fun v wc => v = .bool false ∧ Hid (Below w.heap.size w wc))
   case first =>
     go_region_held (fun W => W.cell? ⟨b, off, none⟩ = some (.int .i64 ix))
       (first | (with_reducible exact HIX.out _ HSD1.out) | (with_reducible exact HIX.out _ HB2.out))
       (first | (go_at_call 16; refine (HNX.out _ HSD1.out).mono ?_; rintro e W2 ⟨rfl, hb2⟩; have HB2 := hide hb2; clear hb2))
     all_goals
       go_wp2_with fail
       go_meet
       exact ⟨by first | rfl | (rw [hxb]), HB2⟩
   case rest =>
   obtain ⟨W2, rfl⟩ : ∃ W, W = wc := ⟨_, rfl⟩
   obtain ⟨rfl, HB2⟩ := hcut
   have HSD2 := hide (HSD.out W2 HB2.out)
   go_upto_region 5 with fail
   go_cut [5, 6] (fun v5 v6 wc => v5 = .int .i64 cu ∧ (∃ a n c, v6 = .slice a n c) ∧ Hid (Own wc w.heap.size v6 BA) ∧ Hid (Below w.heap.size w wc))
   case first =>
     go_region_held (fun W => W.cell? ⟨p, 12, none⟩ = some (.int .i64 cu))
       (first | (with_reducible exact (HCE.out _ HSD2.out).2) | (with_reducible exact (HCE.out _ HB3.out).2))
       (first | (go_at_call 53; refine (HBF.out _ HSD2.out).mono ?_; rintro e W3 ⟨v3, rfl, ho3, hb3⟩; have HO3 := hide ho3; have HB3 := hide hb3; obtain ⟨z1, z2, z3, hz⟩ : ∃ a n c, v3 = Value.slice a n c := (by obtain ⟨a, c, hh⟩ := ho3.shape; exact ⟨a, _, c, hh⟩); subst hz; clear ho3 hb3))
     all_goals
       go_wp2_with fail
       go_meet
       exact ⟨rfl, ⟨_, _, _, rfl⟩, HO3, HB3⟩
   case rest =>
   obtain ⟨W3, rfl⟩ : ∃ W, W = wc := ⟨_, rfl⟩
   obtain ⟨rfl, ⟨z1, z2, z3, rfl⟩, HO3, HB3⟩ := hcut
   obtain ⟨q0, q12⟩ := HCE.out W3 HB3.out
   go_wp2_with fail
   refine (HAP.out _ W3 HO3.out HB3.out).mono ?_
   rintro e W7 ⟨rfl, hs7, ho7⟩
   have HS7 := hide hs7
   have HO7 := hide ho7
   obtain ⟨⟨-, -, k12, k13⟩, kf⟩ := hs7.cells
   clear hs7 ho7 q0 q12
   by_cases hc : c = 0
   case neg =>
     have hcb2 : (c != 0) = true := by rw [bne_iff_ne]; exact hc
     have HE := hide (HERR.out W7 HS7.out HO7.out hc)
     clear hc kf k12 k13
     go_wp2
     go_ret
     exact HE.out
   have HC0 := hide hc
   subst hc
   obtain ⟨WA, rfl⟩ : ∃ W, W = W7 := ⟨_, rfl⟩
   have HSA := hide (And.intro HS7.out HO7.out)
   have HAD := hide (HSA.out.1.add (HRK.out WA HSA.out.2).2 _ l (HRK.out WA HSA.out.2).1 (HPC.out HCU.out) (by have := HLM.out.1; omega) (by have := HLM.out.2; have := HLL.out.2; omega) (fun q hq => by
     have := chainP_mem HOK.out.log.ch q hq
     have := HOK.out.log.f0
     have := HOK.out.log.top
     omega))
   clear kf k13
   have hk12 : s.cur = cu := HCV.out
   rw [hk12] at k12
   clear hk12
   go_wp2_with fail
   refine HAD.out.mono ?_
   rintro e WB ⟨rfl, hsB, hoB⟩
   have HSB : Hid (SD K WB pd p { s with log := s.log.add l } D (N + 2) (T + 30000)) := hide hsB
   have HOB : Hid (Only (fun k => ¬ K k) w WB) := hide (HSA.out.2.trans hoB (fun _ _ h => h))
   clear hsB hoB HAD
   obtain ⟨la, ln, lc, ta, tn, tc, ⟨c5, c6, c7, c8, c9, c10⟩, hTK⟩ := HSB.out.takes (HRK.out WB HOB.out).2 HOK.out.now _ l (HRK.out WB HOB.out).1 (by have := HLL.out.2; omega)
   have HTK := hide hTK
   clear hTK
   dsimp only at c5 c6 c8 c9 HTK
   go_wp2_with fail
   refine HTK.out.mono ?_
   rintro e WC ⟨xa, xn, xc, ua, un, uc, rfl, ⟨e5, e6, e7, e8, e9, e10⟩, fz, hsC, hoC⟩
   have HFF := hide (HFIN.out _ hsC (HOB.out.trans hoC (fun _ _ h => h)) (by first | rfl | trivial))
   have f5 := fz 5
   have f6 := fz 6
   have f7 := fz 7
   have f8 := fz 8
   have f9 := fz 9
   have f10 := fz 10
   clear hsC hoC fz c5 c6 c7 c8 c9 c10 HTK
   generalize takeN s.now l = tk at *
   go_wp2
   go_ret
   exact HFF.out

end Go.Proofs.YtpopbandpnaicaaGreatDoor
