import Derived.Test.YtpopbandpnaicaaGreatDoorCodecDecA
import Derived.Deep.RegionHeld
namespace Go.Proofs.YtpopbandpnaicaaGreatDoor
open Go.RowKit

set_option maxRecDepth 100000 in
set_option maxHeartbeats 4000000 in
theorem decodeState_any (v : Value) (l : List UInt8) (w : World) (hr : Rd w v l) (_hlim : l.length <= 1000000) :
   Calls Tryz.prog 167 #[v] w fun e w' => DecodedS w (decS l) e w' := by
 obtain ⟨va, vc, rfl⟩ : ∃ va vc, v = .slice va l.length vc := by
   obtain ⟨va, vc, rfl, _⟩ := hr
   exact ⟨va, vc, rfl⟩
 have HR := hide hr
 clear hr
 have HNG : Hid (∀ m W vb, Bb W (w.heap.size + 1 + 1) vb -> Rd W vb m -> Calls Tryz.prog 221 #[.func (.func 171) #[] #[], .pointer (some ⟨w.heap.size + 1 + 1, 0, none⟩)] W fun e w' => ∃ v', e = .returned (.tuple #[.int .i64 ((dec62 m).1 : Nat), .bool (decide ((dec62 m).2 ≠ 0))]) ∧ Bb w' (w.heap.size + 1 + 1) v' ∧ Rd w' v' (behind (dec62 m).2 m) ∧ But (w.heap.size + 1 + 1) (w.heap.size + 1 + 1) W w') := fun m W vb h1 h2 => next_get _ _ _ _ _ W h1 h2 (dec62_le m) (fun h => by rw [dec62_zero h]; rfl) (get_any vb m W h2)
 have HNS : Hid (∀ m W vb, Bb W (w.heap.size + 1 + 1) vb -> Rd W vb m -> Calls Tryz.prog 221 #[.func (.func 204) #[] #[], .pointer (some ⟨w.heap.size + 1 + 1, 0, none⟩)] W fun e w' => ∃ v', e = .returned (.tuple #[.int .i64 (zag (dec64 m).1), .bool (decide ((dec64 m).2 ≠ 0))]) ∧ Bb w' (w.heap.size + 1 + 1) v' ∧ Rd w' v' (behind (dec64 m).2 m) ∧ But (w.heap.size + 1 + 1) (w.heap.size + 1 + 1) W w') := fun m W vb h1 h2 => next_signed _ _ _ _ _ W h1 h2 (dec64_le m) dec64_zero (getSigned_any vb m W h2)
 have HG := hide (decS_behind l)
 have HN1 := hide (HNG.out l)
 have c1 : (dec62 l).1 < 4611686018427387904 := by
   rcases dec62_cases l with h | h
   · rw [h]; decide
   · exact h.1
 obtain ⟨m1, hm1⟩ : ∃ m1, m1 = behind (dec62 l).2 l := ⟨_, rfl⟩
 rw [<- hm1] at HG HN1
 have HN2 := hide (HNG.out m1)
 obtain ⟨m2, hm2⟩ : ∃ m2, m2 = behind (dec62 m1).2 m1 := ⟨_, rfl⟩
 rw [<- hm2] at HG HN2
 have HN3 := hide (HNG.out m2)
 obtain ⟨R, hm3⟩ : ∃ m3, m3 = behind (dec62 m2).2 m2 := ⟨_, rfl⟩
 rw [<- hm3] at HG HN3
 clear hm1 hm2 hm3 HNG
 generalize decS l = D at *
 generalize (dec62 l).1 = kd at *
 generalize (dec62 l).2 = i at *
 generalize (dec62 m1).1 = sl at *
 generalize (dec62 m1).2 = j at *
 generalize (dec62 m2).1 = many at *
 generalize (dec62 m2).2 = k at *
 have HNU := hide (fun W => numbers_any va l.length vc W)
 have HST : Hid (∀ W X Y, X = .cells #[.int .i64 0, .slice none 0 0, .bool false, .int .i64 0] 38 -> Y = .cells #[.int .i64 0, .slice none 0 0, .bool false, .int .i64 0] 38 -> W = ((w.alloc X).alloc Y).alloc (.cells #[.slice va l.length vc] 53) -> SIn w W 0 (.slice none 0 0) false 0 (.slice va l.length vc) l) := fun W X Y hX hY hW => by
   subst hX hY hW
   have b1 : Below w.heap.size w (((w.alloc (.cells #[.int .i64 0, .slice none 0 0, .bool false, .int .i64 0] 38)).alloc (.cells #[.int .i64 0, .slice none 0 0, .bool false, .int .i64 0] 38)).alloc (.cells #[.slice va l.length vc] 53)) := (((Below.refl _ _).alloc (Nat.le_refl _) _).alloc (by simp) _).alloc (by simp; omega) _
   refine ⟨?_, ?_, ?_, HR.out.below b1 (Nat.le_refl _), b1⟩
   · exact (Below.heap_alloc _ _ _ (by simp; omega)).trans ((Below.heap_alloc _ _ _ (by simp)).trans (heap_alloc_new w _))
   · exact (Below.heap_alloc _ _ _ (by simp)).trans (two_new w _ _)
   · have h := heap_alloc_new ((w.alloc (.cells #[.int .i64 0, .slice none 0 0, .bool false, .int .i64 0] 38)).alloc (.cells #[.int .i64 0, .slice none 0 0, .bool false, .int .i64 0] 38)) (.cells #[.slice va l.length vc] 53)
     have e : ((w.alloc (.cells #[.int .i64 0, .slice none 0 0, .bool false, .int .i64 0] 38)).alloc (.cells #[.int .i64 0, .slice none 0 0, .bool false, .int .i64 0] 38)).heap.size = w.heap.size + 1 + 1 := by simp
     rw [e] at h
     exact h
 go_enter Tryz.func167, Tryz.ntmps167
 go_wp2_with fail
 refine (HNU.out _).mono ?_
 rintro e W1 ⟨rfl, hw1⟩
 have G1 := hide (HST.out W1 _ _ rfl rfl hw1)
 clear hw1 HST HNU
 go_wp2_with fail
 refine (HN1.out _ _ G1.out.cap G1.out.rd).mono ?_
 rintro e W2 ⟨v2, rfl, hb2, hr2, hk2⟩
 have G2 := hide (G1.out.next hk2 hb2 hr2)
 obtain ⟨p0, f0⟩ := G2.out.box.cell 0
 clear hb2 hr2 hk2 G1 HN1
 have HT2 := hide (G2.out.store (kd' := (kd : Int)) (vl' := .slice none 0 0) (sh' := false) (g' := 0) 0 (.int .i64 (kd : Int)) _ rfl (fun n e => by simp at e) rfl)
 go_wp2_with fail
 refine (HN2.out _ _ HT2.out.cap HT2.out.rd).mono ?_
 rintro e W3 ⟨v3, rfl, hb3, hr3, hk3⟩
 have G3 := hide (HT2.out.next hk3 hb3 hr3)
 clear hb3 hr3 hk3 G2 HT2 HN2 p0 f0
 go_wp2_with fail
 refine (HN3.out _ _ G3.out.cap G3.out.rd).mono ?_
 rintro e W4 ⟨v4, rfl, hb4, hr4, hk4⟩
 have G4 := hide (G3.out.next hk4 hb4 hr4)
 clear hb4 hr4 hk4 G3 HN3
 by_cases hbad : k = 0 ∨ 3 < sl ∨ 128 < many
 · have HN : Hid (D = (zeroS, 3)) := HG.out.1 hbad
   obtain ⟨r0, g0⟩ := G4.out.res.cell 0
   obtain ⟨r1, g1⟩ := G4.out.res.cell 1
   obtain ⟨r2, g2⟩ := G4.out.res.cell 2
   obtain ⟨r3, g3⟩ := G4.out.res.cell 3
   have HBL := hide G4.out.below
   by_cases hk : k = 0
   · rw [decide_eq_false (fun h => h hk)]
     clear hk hbad G4
     go_wp2
     refine bodyPost_ret (v := .tuple #[.agg #[.int .i64 0, .slice none 0 0, .bool false, .int .i64 0], .int .i64 3]) (by simp [results, Tryz.results167, go_sem, r0, r1, r2, r3]) rfl ?_
     rw [HN.out]
     exact DecodedS.zero 3 (belowFour HBL.out w.heap.size (Nat.le_refl _) _ _ _ _)
   · rw [decide_eq_true hk]
     by_cases h3 : 3 < sl
     · have h3' : (3 : Int) < (sl : Int) := by omega
       clear hk hbad G4 h3
       go_wp2
       refine bodyPost_ret (v := .tuple #[.agg #[.int .i64 0, .slice none 0 0, .bool false, .int .i64 0], .int .i64 3]) (by simp [results, Tryz.results167, go_sem, r0, r1, r2, r3]) rfl ?_
       rw [HN.out]
       exact DecodedS.zero 3 (belowFour HBL.out w.heap.size (Nat.le_refl _) _ _ _ _)
     · have h3' : ¬ (3 : Int) < (sl : Int) := by omega
       have h4 : (128 : Int) < (many : Int) := by
         rcases hbad with h | h | h
         · exact absurd h hk
         · exact absurd h h3
         · omega
       clear hk hbad G4 h3
       go_wp2
       refine bodyPost_ret (v := .tuple #[.agg #[.int .i64 0, .slice none 0 0, .bool false, .int .i64 0], .int .i64 3]) (by simp [results, Tryz.results167, go_sem, r0, r1, r2, r3]) rfl ?_
       rw [HN.out]
       exact DecodedS.zero 3 (belowFour HBL.out w.heap.size (Nat.le_refl _) _ _ _ _)
 · have HN : Hid (D = restS kd sl many R) := HG.out.2 hbad
   have hk : k ≠ 0 := fun h => hbad (.inl h)
   have h3 : ¬ (3 : Int) < (sl : Int) := fun h => hbad (.inr (.inl (by omega)))
   have h4 : ¬ (128 : Int) < (many : Int) := fun h => hbad (.inr (.inr (by omega)))
   rw [decide_eq_true hk]
   obtain ⟨p1, f1⟩ := G4.out.box.cell 1
   obtain ⟨p2, f2⟩ := G4.out.box.cell 2
   obtain ⟨p3, f3⟩ := G4.out.box.cell 3
   clear hbad hk HG
   have hsl : sl = 0 ∨ sl = 1 ∨ sl = 2 ∨ sl = 3 := by omega
   go_upto_region 8 with fail
   go_cut [] (fun wc => ∃ (sh : Bool) (g : Int), Hid (∀ xs, mkS kd sl xs = ⟨kd, xs, sh, g⟩) ∧ Hid (I64 g) ∧ Hid (SIn w wc kd (.slice none 0 0) sh g v4 R))
   case first =>
     rcases hsl with rfl | rfl | rfl | rfl
     · go_wp2
       go_meet
       exact ⟨false, 0, hide (fun xs => by simp [mkS]), hide (i64_small (by omega) (by omega)), hide ((G4.out.store 2 (.bool false) _ rfl (fun n e => by simp at e) rfl).store 3 (.int .i64 0) _ rfl (fun n e => by simp at e) rfl)⟩
     · go_wp2
       go_meet
       exact ⟨true, 0, hide (fun xs => by simp [mkS]), hide (i64_small (by omega) (by omega)), hide ((G4.out.store 2 (.bool true) _ rfl (fun n e => by simp at e) rfl).store 3 (.int .i64 0) _ rfl (fun n e => by simp at e) rfl)⟩
     · go_wp2
       go_meet
       exact ⟨true, 1, hide (fun xs => by simp [mkS]), hide (i64_small (by omega) (by omega)), hide ((G4.out.store 2 (.bool true) _ rfl (fun n e => by simp at e) rfl).store 3 (.int .i64 1) _ rfl (fun n e => by simp at e) rfl)⟩
     · go_wp2
       go_meet
       exact ⟨true, 2, hide (fun xs => by simp [mkS]), hide (i64_small (by omega) (by omega)), hide ((G4.out.store 2 (.bool true) _ rfl (fun n e => by simp at e) rfl).store 3 (.int .i64 2) _ rfl (fun n e => by simp at e) rfl)⟩
   case rest =>
     obtain ⟨sh, g, HMK, HGI, GS⟩ := hcut
     clear hsl p1 f1 p2 f2 p3 f3 G4
     have HDS := hide (DIn.start GS.out many)
     obtain ⟨a1, e1⟩ := (GS.out.more ((Below.refl _ _).alloc (Nat.le_refl _) (.cells (intCells (List.replicate many 0)).toArray 3))).box.cell 1
     have hmk := fun W => run_make_ints W many (by omega)
     have HKI : Hid (I64 (kd : Int)) := ⟨by omega, by omega⟩
     have hmm : many <= 128 := by omega
     have HML : Hid (many <= maxLen) := hide (by unfold maxLen; omega)
     generalize (intCells (List.replicate many 0)).toArray = Z at *
     go_upto_region 10 with fail
     generalize ((wc.alloc (.cells Z 3)).setCell ⟨w.heap.size + 1, 1, none⟩ (.slice (some ⟨wc.heap.size, 0, none⟩) many many)) = W6 at *
     clear hmk a1 e1 GS
     generalize wc.heap.size = G at *
     obtain ⟨b1, -⟩ := HDS.out.sin.box.cell 1
     go_wp2
     go_loopw [10, 57] (fun th ix wr => ∃ (q : Nat) (vb : Value) (m : List UInt8) (ys : List Int) (t : Bool), th = .bool t ∧ ix = .int .i64 (q : Int) ∧ q <= many ∧ Hid (DIn w wr kd g sh R many G q vb m ys t)) (fun _ ix _ => many - (intOf ix).toNat)
     case atStart => exact ⟨0, _, _, _, true, rfl, rfl, Nat.zero_le _, HDS⟩
     case round =>
       clear HDS b1
       obtain ⟨q, vb, m, ys, t, rfl, rfl, hq, hd⟩ := hrel
       by_cases hlt : q < many
       · have hqi : (q : Int) < (many : Int) := by omega
         obtain ⟨b1, -⟩ := hd.out.sin.box.cell 1
         have hfar := hd.out.far
         have HK0 : Hid (wr.drew.cell? ⟨w.heap.size + 1, 1, none⟩ = some (.slice (some ⟨G, 0, none⟩) many many)) := b1
         have HNX := hide (HNS.out m wr.drew vb hd.out.sin.cap hd.out.sin.rd)
         have HSTEP := hide (fun W' v' hb hc hr => hd.out.step (W' := W') (v' := v') hlt hb hc hr)
         have HSPOT := hide (fun W' hb => hd.out.spot (W' := W') hlt hb)
         have HBOX := hide (fun W' v' hb hc hr => (((hd.out.sin.next (W' := W') (v' := v') (m' := behind (dec64 m).2 m) hb hc hr).box).cell 1).1)
         generalize zag (dec64 m).1 = x at *
         generalize behind (dec64 m).2 m = m' at *
         generalize decide ((dec64 m).2 ≠ 0) = t' at *
         go_wp2
         go_region_held (fun w' => w'.cell? ⟨w.heap.size + 1, 1, none⟩ = some (.slice (some ⟨G, 0, none⟩) many many)) (first | exact HK0.out | exact HK1.out | exact HK2.out)
           (first
             | (go_at_call 221; refine HNX.out.mono ?_; rintro e W7 ⟨v7, rfl, hb7, hr7, hk7⟩; have hk7' := hk7.ofDrew; have HK1 : Hid (W7.cell? ⟨w.heap.size + 1, 1, none⟩ = some (.slice (some ⟨G, 0, none⟩) many many)) := HBOX.out W7 v7 hk7' hb7 hr7; obtain ⟨k0, k1⟩ := HSPOT.out W7 hk7'; have HK2 : Hid ((W7.setCell ⟨G, q, none⟩ (.int .i64 x)).cell? ⟨w.heap.size + 1, 1, none⟩ = some (.slice (some ⟨G, 0, none⟩) many many)) := hide ((World.cell?_setCell_far W7 _ _ _ (by show G ≠ w.heap.size + 1; omega)).trans HK1.out); have HD7 := hide (HSTEP.out W7 v7 hk7' hb7 hr7); clear hb7 hr7 hk7 hk7'))
         clear HK0 HK1 HK2 HNX HSTEP HSPOT HBOX k0 k1 b1 hfar hd
         go_wp2
         go_roundw
         case rel => exact ⟨q + 1, _, _, _, _, rfl, by go_num, by omega, HD7⟩
         case measure => simp [intOf]; omega
       · have hqe : q = many := by omega
         have hqi : ¬ (q : Int) < (many : Int) := by omega
         have hlen := hd.out.len
         have HOW := hide (hd.out.own HML.out)
         obtain ⟨r0, f0⟩ := hd.out.sin.res.cell 0
         obtain ⟨r1, f1⟩ := hd.out.sin.res.cell 1
         obtain ⟨r2, f2⟩ := hd.out.sin.res.cell 2
         obtain ⟨r3, f3⟩ := hd.out.sin.res.cell 3
         have HBL := hide hd.out.sin.below
         rcases hd.out.st with ⟨rfl, u, hrd, hmu⟩ | ⟨rfl, hrd, hmu⟩
         · have hu := (readL_sound _ _ _ _ hrd).2.1
           have hml : m.length = R.length - u := by rw [hmu, List.length_drop]
           have hye : ys.take q = ys := List.take_of_length_le (by omega)
           rw [hye, hqe] at hrd
           have HRL := hide hrd
           have hc := hd.out.sin.cap.cell.1
           obtain ⟨a4, c4, rfl, -⟩ := hd.out.sin.rd
           have HL := hide (fun W h => left_any (w.heap.size + 1 + 1) a4 m.length c4 W h)
           clear hrd hye hmu
           by_cases hend : u = R.length
           · have hm0 : m.length = 0 := by omega
             rw [hm0] at hc HL
             have HDE : Hid (D = if MayS ⟨kd, ys, sh, g⟩ then ((⟨kd, ys, sh, g⟩ : St), 0) else (zeroS, 1)) := by
               refine hide ?_
               rw [HN.out]
               unfold restS
               rw [HRL.out]
               simp only
               rw [if_neg (by omega), HMK.out]
             have HIX := hide (readL_sound _ _ _ _ HRL.out).2.2.2
             have HRX := hide (HOW.out.rd HIX.out)
             have q0 := (hd.out.sin.box.cell 0).1
             have q1 := (hd.out.sin.box.cell 1).1
             have q2 := (hd.out.sin.box.cell 2).1
             have q3 := (hd.out.sin.box.cell 3).1
             have HM2 : Hid (Calls Tryz.prog 89 #[.agg #[.int .i64 kd, .slice (some ⟨G, 0, none⟩) many many, .bool sh, .int .i64 g]] wr fun e w' => e = .returned (.bool (decide (MayS ⟨kd, ys, sh, g⟩))) ∧ Below wr.heap.size wr w') := may_any _ ⟨kd, ys, sh, g⟩ _ ⟨_, rfl, HRX.out, HKI.out, HGI.out⟩
             clear hend hml hm0 hlen HN HMK
             go_wp2_with fail
             refine (HL.out _ hc).mono ?_
             rintro e W8 ⟨rfl, rfl⟩
             go_wp2_with fail
             refine HM2.out.mono ?_
             rintro e W7 ⟨rfl, hb7⟩
             have HS7 := hide (hd.out.sin.more hb7)
             have HOW7 := hide (HOW.out.below hb7 (Nat.le_refl _))
             clear hb7 r0 r1 r2 r3 f0 f1 f2 f3 q0 q1 q2 q3 hc HM2 HL
             obtain ⟨r0, f0⟩ := HS7.out.res.cell 0
             obtain ⟨r1, f1⟩ := HS7.out.res.cell 1
             obtain ⟨r2, f2⟩ := HS7.out.res.cell 2
             obtain ⟨r3, f3⟩ := HS7.out.res.cell 3
             have q0 := (HS7.out.box.cell 0).1
             have q1 := (HS7.out.box.cell 1).1
             have q2 := (HS7.out.box.cell 2).1
             have q3 := (HS7.out.box.cell 3).1
             by_cases hm : MayS ⟨kd, ys, sh, g⟩
             · rw [decide_eq_true hm]
               have HF : Hid (D = ((⟨kd, ys, sh, g⟩ : St), 0)) := HDE.out.trans (if_pos hm)
               clear hm HDE
               go_wp2
               refine bodyPost_ret (v := .tuple #[.agg #[.int .i64 kd, .slice (some ⟨G, 0, none⟩) many many, .bool sh, .int .i64 g], .int .i64 0]) (by simp [results, Tryz.results167, go_sem, r0, r1, r2, r3]) rfl ?_
               rw [HF.out]
               refine ⟨_, rfl, (HOW7.out.four w.heap.size (by omega) _ _ _ _).rd HIX.out, HKI.out, HGI.out, fun b hb => ?_, belowFour HS7.out.below w.heap.size (Nat.le_refl _) _ _ _ _⟩
               have := HOW7.out.fresh b hb
               omega
             · rw [decide_eq_false hm]
               have HF : Hid (D = (zeroS, 1)) := HDE.out.trans (if_neg hm)
               clear hm HDE
               go_wp2
               refine bodyPost_ret (v := .tuple #[.agg #[.int .i64 0, .slice none 0 0, .bool false, .int .i64 0], .int .i64 1]) (by simp [results, Tryz.results167, go_sem, r0, r1, r2, r3]) rfl ?_
               rw [HF.out]
               exact DecodedS.zero 1 (belowFour HS7.out.below w.heap.size (Nat.le_refl _) _ _ _ _)
           · have hm0 : (0 : Int) < (m.length : Int) := by omega
             have HF : Hid (D = (zeroS, 3)) := by
               refine hide ?_
               rw [HN.out]
               unfold restS
               rw [HRL.out]
               simp only
               rw [if_pos hend]
             clear hend hml hlen HN
             go_wp2_with fail
             refine (HL.out _ hc).mono ?_
             rintro e W8 ⟨rfl, rfl⟩
             go_wp2
             refine bodyPost_ret (v := .tuple #[.agg #[.int .i64 0, .slice none 0 0, .bool false, .int .i64 0], .int .i64 3]) (by simp [results, Tryz.results167, go_sem, r0, r1, r2, r3]) rfl ?_
             rw [HF.out]
             exact DecodedS.zero 3 (belowFour HBL.out w.heap.size (Nat.le_refl _) _ _ _ _)
         · rw [hqe] at hrd
           have HF : Hid (D = (zeroS, 3)) := by
             refine hide ?_
             rw [HN.out]
             unfold restS
             rw [hrd]
           clear hrd hmu hd
           go_wp2
           refine bodyPost_ret (v := .tuple #[.agg #[.int .i64 0, .slice none 0 0, .bool false, .int .i64 0], .int .i64 3]) (by simp [results, Tryz.results167, go_sem, r0, r1, r2, r3]) rfl ?_
           rw [HF.out]
           exact DecodedS.zero 3 (belowFour HBL.out w.heap.size (Nat.le_refl _) _ _ _ _)

end Go.Proofs.YtpopbandpnaicaaGreatDoor
