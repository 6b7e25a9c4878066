import Derived.Test.YtpopbandpnaicaaGreatDoorSnapDecC
import Derived.Test.YtpopbandpnaicaaGreatDoorCodecDec
namespace Go.Proofs.YtpopbandpnaicaaGreatDoor
open Go.RowKit

def ReadW (w : World) (b : List UInt8) (e : Ending) (w' : World) : Prop :=
 ∃ (vl vt : Value) (S : St) (t : List Ent) (ok : Bool), e = .returned (.tuple #[.agg #[.int .i64 S.kind, vl, .bool S.shut, .int .i64 S.eng], vt, .bool ok]) ∧ RdI w' vl S.L ∧ I64 S.kind ∧ I64 S.eng ∧ RdE w' vt t ∧ (∀ k, vl.ownBlock = some k -> w.heap.size <= k) ∧ (∀ k, vt.ownBlock = some k -> w.heap.size <= k) ∧
   (ok = false -> (readN b).2 = 3) ∧ (ok = true -> ∃ er, readN b = (⟨0, S, t⟩, er) ∧ (er = 0 ∨ (er = 1 ∧ S = zeroS))) ∧ Below w.heap.size w w'

theorem ReadW.none {w w' : World} {b : List UInt8} (h : (readN b).2 = 3) (hb : Below w.heap.size w w') : ReadW w b (.returned (.tuple #[.agg #[.int .i64 0, .slice none 0 0, .bool false, .int .i64 0], .slice none 0 0, .bool false])) w' :=
 ⟨_, _, zeroS, [], false, rfl, RdI.nil _, (i64_small (by decide) (by decide) : I64 0), (i64_small (by decide) (by decide) : I64 0), RdE.nil _, (fun k hk => by simp [Value.ownBlock] at hk), (fun k hk => by simp [Value.ownBlock] at hk), (fun _ => h), (fun h => by cases h), hb⟩

theorem cut_head (ao : Option Addr) (l : List UInt8) (cap : Nat) (hlc : l.length <= cap) (j : Nat) (hj : j <= l.length) :
   ∃ xa xn xc, (∀ W, (Instr.sliceAt 53 (.slice ao l.length cap) none (some (.int .i64 (j : Int))) (some (.int .i64 (j : Int)))).run Tryz.prog W = .ok (.slice xa xn xc) W) ∧ ∀ W, Rd W (.slice ao l.length cap) l -> Rd W (.slice xa xn xc) (l.take j) := by
 have hsl : ∃ xa xn xc, sliced ao 0 j j 1 = .slice xa xn xc := by
   unfold sliced
   exact ⟨_, _, _, rfl⟩
 obtain ⟨xa, xn, xc, hsl⟩ := hsl
 refine ⟨xa, xn, xc, fun W => ?_, fun W h => ?_⟩
 · rw [run_sliceAt_slice W 53 _ _ _ _ under_bytes, run_slice_hm W 53 ao l.length cap under_bytes .i64 .i64 (j : Int) (j : Int) (by omega) (by omega) (by omega), elem_bytes, size_u8]
   simp only [Int.toNat_natCast]
   rw [<- hsl]
   rfl
 · rw [<- hsl]
   have h2 := h.mid 0 j j (Nat.zero_le _) hj (Nat.le_refl _) (by omega)
   rw [List.drop_zero, Nat.sub_zero] at h2
   exact h2

def four (w : World) (R : Nat) (x0 x1 x2 x3 : Value) : World := (((w.setCell ⟨R, 0, none⟩ x0).setCell ⟨R, 1, none⟩ x1).setCell ⟨R, 2, none⟩ x2).setCell ⟨R, 3, none⟩ x3

theorem belowFourE {C : Nat} {w0 w : World} (h : Below C w0 w) (R : Nat) (hR : C <= R) (x0 x1 x2 x3 : Value) : Below C w0 ((((w.setCell ⟨R, 0, none⟩ x0).setCell ⟨R, 1, none⟩ x1).setCell ⟨R, 2, none⟩ x2).setCell ⟨R, 3, none⟩ x3) :=
 (((h.setCell hR _).setCell hR _).setCell hR _).setCell hR _

theorem butFourE (w : World) (R : Nat) (x0 x1 x2 x3 : Value) : But R R w ((((w.setCell ⟨R, 0, none⟩ x0).setCell ⟨R, 1, none⟩ x1).setCell ⟨R, 2, none⟩ x2).setCell ⟨R, 3, none⟩ x3) :=
 ((((But.refl R R w).set _ _ (.inl rfl) _).set _ _ (.inl rfl) _).set _ _ (.inl rfl) _).set _ _ (.inl rfl) _

set_option maxRecDepth 100000 in
set_option maxHeartbeats 4000000 in
theorem readWhole_any (v : Value) (b : List UInt8) (w : World) (hr : Rd w v b) (hlim : b.length <= 100000) :
   Calls Tryz.prog 121 #[v] w fun e w' => ReadW w b e w' := by
 obtain ⟨W0, hW0⟩ : ∃ W0, W0 = ((w.alloc (.cells #[.int .i64 0, .slice none 0 0, .bool false, .int .i64 0] 38)).alloc (.cells #[.int .i64 0] 3)).alloc (.cells #[.pointer (some ⟨w.heap.size + 1, 0, none⟩)] 210) := ⟨_, rfl⟩
 have h3 := three_new w (.cells #[.int .i64 0, .slice none 0 0, .bool false, .int .i64 0] 38) (.cells #[.int .i64 0] 3) (.cells #[.pointer (some ⟨w.heap.size + 1, 0, none⟩)] 210)
 rw [<- hW0] at h3
 obtain ⟨hA, hB, hC⟩ := h3
 have HB0 : Hid (Below w.heap.size w W0) := hide (by rw [hW0]; exact (((Below.refl _ _).alloc (Nat.le_refl _) _).alloc (by simp) _).alloc (by simp; omega) _)
 have hEA : Bx W0 w.heap.size #[.int .i64 0, .slice none 0 0, .bool false, .int .i64 0] := hA
 have HGN := hide (getNumbers_any (w.heap.size + 1 + 1) [(w.heap.size + 1, 0)] v b W0 (hr.below HB0.out (Nat.le_refl _)) (fun p hp => by
   rw [List.mem_singleton.1 hp]
   exact ⟨⟨⟨0, cell_of_row W0 (w.heap.size + 1) 0 _ _ _ hB⟩, frozen_of_row W0 (w.heap.size + 1) 0 _ _ hB⟩, by simp⟩) (by simp) hC 1 rfl)
 have HSC : Hid (∀ n : Nat, (W0.setCell ⟨w.heap.size + 1, 0, none⟩ (.int .i64 (n : Int))).cell? ⟨w.heap.size + 1, 0, none⟩ = some (.int .i64 (n : Int))) := hide (fun n => World.cell?_setCell_same _ _ _ (cell_of_row W0 (w.heap.size + 1) 0 _ _ _ hB))
 have HSB : Hid (∀ ns, Below w.heap.size w (setAt W0 ([(w.heap.size + 1, 0)].take (List.length ns)) ns)) := hide (fun ns => setAt_below W0 _ ns _ w (fun p hp => by
   have := List.mem_of_mem_take hp
   rw [List.mem_singleton.1 this]
   simp) HB0.out)
 have HSA : Hid (∀ ns, Bx (setAt W0 ([(w.heap.size + 1, 0)].take (List.length ns)) ns) w.heap.size #[.int .i64 0, .slice none 0 0, .bool false, .int .i64 0]) := hide (fun ns => (setAt_block W0 _ ns _ (fun p hp => by
   have := List.mem_of_mem_take hp
   rw [List.mem_singleton.1 this]
   simp)).trans hEA)
 have HG1 := hide (fun ns l h => getsL_some1 (b := b) (ns := ns) (l := l) h)
 have HG0 := hide (fun h => getsL_none1 (b := b) h)
 have HRN : Hid (readN b = if (dec62 b).2 = 0 ∨ b.length < (dec62 b).2 + (dec62 b).1 then (zeroN, 3) else if (decS ((b.drop (dec62 b).2).take (dec62 b).1)).2 = 3 then (zeroN, 3) else match tableL (b.drop ((dec62 b).2 + (dec62 b).1)) with
   | none => (zeroN, 3)
   | some t => (⟨0, (decS ((b.drop (dec62 b).2).take (dec62 b).1)).1, t⟩, (decS ((b.drop (dec62 b).2).take (dec62 b).1)).2)) := hide rfl
 have hd := dec62_le b
 have hdn : (dec62 b).1 < 4611686018427387904 := by
   rcases dec62_cases b with h | h
   · rw [h]; decide
   · exact h.1
 have HDS := hide (fun v1 l W h h2 => decodeState_any v1 l W h h2)
 have HRT := hide (fun v1 l W h h2 => readTable_any v1 l W h h2)
 have HLEN : Hid ([(w.heap.size + 1, 0)].length = 1) := hide rfl
 rw [HLEN.out] at HGN
 generalize getsL 1 b = GL at *
 have HRW := hide hr
 obtain ⟨va, vc, hv⟩ : ∃ a c, v = .slice a b.length c := by obtain ⟨a, c, h, -⟩ := hr; exact ⟨a, c, h⟩
 subst hv
 clear hr hA hB hC hEA HLEN
 go_enter Tryz.func121, Tryz.ntmps121
 go_wp2_with fail
 rw [<- hW0]
 refine HGN.out.mono ?_
 rintro e W1 ⟨v1, l, ns, rfl, hr1, hn1, hs1, hlt1, hle1, hal1⟩
 have HB1 : Hid (Below w.heap.size w W1) := hide ((HSB.out ns).trans (hal1.below _))
 have HA1 : Hid (Bx W1 w.heap.size #[.int .i64 0, .slice none 0 0, .bool false, .int .i64 0]) := hide ((HSA.out ns).below (hal1.below (setAt W0 ([(w.heap.size + 1, 0)].take ns.length) ns).heap.size) (Nat.le_refl _))
 have HV1 := hide hr1
 have HR1 := hide (hr1 W1 (HRW.out.below HB1.out (Nat.le_refl _)))
 obtain ⟨a1, c1, hv1⟩ : ∃ a c, v1 = .slice a l.length c := by obtain ⟨a, c, h, -⟩ := HR1.out; exact ⟨a, c, h⟩
 subst hv1
 obtain ⟨z0, y0⟩ := HA1.out.cell 0
 obtain ⟨z1, y1⟩ := HA1.out.cell 1
 obtain ⟨z2, y2⟩ := HA1.out.cell 2
 obtain ⟨z3, y3⟩ := HA1.out.cell 3
 clear HGN HSB HB0 hW0 HSA
 cases GL with
 | none =>
   have HF : Hid ((readN b).2 = 3) := hide (by rw [HRN.out, if_pos (.inl (HG0.out rfl))])
   clear hn1 hs1 hlt1 hle1 hal1 HRN HG0 HG1
   go_wp2
   refine bodyPost_ret (v := .tuple #[.agg #[.int .i64 0, .slice none 0 0, .bool false, .int .i64 0], .slice none 0 0, .bool false]) (by simp [results, Tryz.results121, go_sem, z0, z1, z2, z3]) rfl ?_
   exact ReadW.none HF.out (belowFourE HB1.out _ (Nat.le_refl _) _ _ _ _)
 | some gp =>
   have := hs1 gp rfl
   subst this
   obtain ⟨g1, g2, g3⟩ := HG1.out _ _ rfl
   subst g2
   have hll : l.length = b.length - (dec62 b).2 := by rw [g3, List.length_drop]
   have hcell : W1.cell? ⟨w.heap.size + 1, 0, none⟩ = some (.int .i64 ((dec62 b).1 : Int)) := by
     rw [hal1.cell]
     exact HSC.out _
   rw [<- List.drop_drop, <- g3] at HRN
   generalize (dec62 b).1 = n at *
   generalize (dec62 b).2 = k at *
   clear hn1 hs1 hlt1 hle1 hal1 HG0 HG1 g3 HSC
   by_cases hbig : l.length < n
   · have HF : Hid ((readN b).2 = 3) := hide (by rw [HRN.out, if_pos (.inr (by omega))])
     have hbi : (l.length : Int) < (n : Int) := by omega
     clear hll HRN
     go_wp2
     refine bodyPost_ret (v := .tuple #[.agg #[.int .i64 0, .slice none 0 0, .bool false, .int .i64 0], .slice none 0 0, .bool false]) (by simp [results, Tryz.results121, go_sem, z0, z1, z2, z3]) rfl ?_
     exact ReadW.none HF.out (belowFourE HB1.out _ (Nat.le_refl _) _ _ _ _)
   have hbi : ¬ (l.length : Int) < (n : Int) := by omega
   have hcap : l.length <= c1 := by
     obtain ⟨a', c', h, h2, -⟩ := HR1.out
     simp only [Value.slice.injEq] at h
     omega
   obtain ⟨xa, xn, xc, hcut1, hcv1⟩ := cut_head a1 l c1 hcap n (by omega)
   obtain ⟨ua, uc, hcut2, hcv2⟩ := cut_from a1 l c1 hcap n (by omega)
   have HDQ := hide (HDS.out _ (l.take n) W1 (hcv1 W1 HR1.out) (by rw [List.length_take]; omega))
   have HV2 := hide (fun W h => hcv2 W (HV1.out W h))
   have HRQ := hide (fun v2 W h => HRT.out v2 (l.drop n) W h (by rw [List.length_drop]; omega))
   have HRM : Hid (readN b = if (decS (l.take n)).2 = 3 then (zeroN, 3) else match tableL (l.drop n) with
     | none => (zeroN, 3)
     | some t => (⟨0, (decS (l.take n)).1, t⟩, (decS (l.take n)).2)) := hide (by rw [HRN.out, if_neg (by omega)])
   have HCO := hide (decS_codes (l.take n))
   clear hcv1 hcv2 HRN HDS HRT hll hbig hcap hd g1
   generalize decS (l.take n) = DS at *
   generalize tableL (l.drop n) = TL at *
   generalize l.drop n = l2 at *
   obtain ⟨⟨dk, dL, dsh, dg⟩, er⟩ := DS
   unfold DecodedS at HDQ
   dsimp only at HDQ HRM HCO
   go_wp2_with fail
   refine HDQ.out.mono ?_
   rintro e W2 ⟨vl, rfl, hl2, hk2, he2, hf2, hb2⟩
   obtain ⟨la, lc, hvl⟩ : ∃ a c, vl = .slice a dL.length c := by obtain ⟨a, c, h, -⟩ := hl2; exact ⟨a, c, h⟩
   subst hvl
   have hs12 := HB1.out.size
   have HB2 := hide (HB1.out.trans (hb2.mono HB1.out.size))
   have HA2 := hide (HA1.out.below hb2 (Nat.le_refl _))
   have hcell2 : W2.cell? ⟨w.heap.size + 1, 0, none⟩ = some (.int .i64 (n : Int)) := (hb2.cell (p := ⟨w.heap.size + 1, 0, none⟩) (World.block_lt_of_cell? W1 ⟨w.heap.size + 1, 0, none⟩ hcell)).trans hcell
   have HL2 := hide hl2
   have HKE := hide (And.intro hk2 he2)
   have HF2 : Hid (∀ k, (Value.slice la dL.length lc).ownBlock = some k -> w.heap.size < k) := hide (fun k hk => by
     have h1 := hf2 k hk
     have h2 := HA1.out.lt
     omega)
   clear hcell hl2 hk2 he2 hf2 hb2 HDQ z0 z1 z2 z3 y0 y1 y2 y3 HA1 HR1
   obtain ⟨W3, hW3⟩ : ∃ W3, W3 = W2.alloc (.cells #[.int .i64 dk, .slice la dL.length lc, .bool dsh, .int .i64 dg] 38) := ⟨_, rfl⟩
   have HB23 : Hid (Below W2.heap.size W2 W3) := hide (by rw [hW3]; exact (Below.refl _ _).alloc (Nat.le_refl _) _)
   have HS3 : Hid (Bx W3 W2.heap.size #[.int .i64 dk, .slice la dL.length lc, .bool dsh, .int .i64 dg]) := hide (by rw [hW3]; exact heap_alloc_new W2 _)
   have HB3 := hide (HB2.out.trans (HB23.out.mono HB2.out.size))
   have HA3 := hide (HA2.out.below HB23.out (Nat.le_refl _))
   have hcell3 : W3.cell? ⟨w.heap.size + 1, 0, none⟩ = some (.int .i64 (n : Int)) := (HB23.out.cell (p := ⟨w.heap.size + 1, 0, none⟩) (World.block_lt_of_cell? W2 ⟨w.heap.size + 1, 0, none⟩ hcell2)).trans hcell2
   have HL3 := hide (HL2.out.below HB23.out (Nat.le_refl _))
   go_upto_region 6 with fail
   rw [<- hW3]
   obtain ⟨QB, hQB⟩ : ∃ QB, QB = W2.heap.size := ⟨_, rfl⟩
   have hQl : w.heap.size < QB := by have := HA2.out.lt; omega
   rw [<- hQB] at HS3 ⊢
   clear hW3 hcell2 hQB HL2 HA2 HB2 HB23
   by_cases h3 : er = 3
   · have h3' : (er == 3) = true := beq_iff_eq.2 h3
     have HF : Hid ((readN b).2 = 3) := hide (by rw [HRM.out, if_pos h3])
     obtain ⟨z0, y0⟩ := HA3.out.cell 0
     obtain ⟨z1, y1⟩ := HA3.out.cell 1
     obtain ⟨z2, y2⟩ := HA3.out.cell 2
     obtain ⟨z3, y3⟩ := HA3.out.cell 3
     clear h3
     go_wp2
     refine bodyPost_ret (v := .tuple #[.agg #[.int .i64 0, .slice none 0 0, .bool false, .int .i64 0], .slice none 0 0, .bool false]) (by simp [results, Tryz.results121, go_sem, z0, z1, z2, z3]) rfl ?_
     exact ReadW.none HF.out (belowFourE HB3.out _ (Nat.le_refl _) _ _ _ _)
   have h3' : (er == 3) = false := beq_eq_false_iff_ne.2 h3
   have HH3 := hide h3
   clear h3
   go_wp2_with fail
   refine (HRQ.out _ _ (HV2.out W3 (HRW.out.below HB3.out (Nat.le_refl _)))).mono ?_
   rintro e W4 ⟨vt, t, rfl, ho4, hi4, ht4, hb4⟩
   obtain ⟨ta, tc, hvt⟩ := ho4.shape
   subst hvt
   have HB4 := hide (HB3.out.trans (hb4.mono HB3.out.size))
   have HA4 := hide (HA3.out.below hb4 (Nat.le_refl _))
   have HS4 := hide (HS3.out.below hb4 (Nat.le_refl _))
   have HL4 := hide (HL3.out.below hb4 (Nat.le_refl _))
   have HE4 := hide (ho4.rd hi4)
   have HTF : Hid (∀ k, (Value.slice ta t.length tc).ownBlock = some k -> w.heap.size < k) := hide (fun k hk => by
     have h1 := (World.ownsRow.lt ho4 k hk).1
     have h2 := HA3.out.lt
     omega)
   have HT4 := hide ht4
   clear ho4 hi4 ht4 hb4 hcell3 HA3 HS3 HL3
   obtain ⟨z0, y0⟩ := HA4.out.cell 0
   obtain ⟨z1, y1⟩ := HA4.out.cell 1
   obtain ⟨z2, y2⟩ := HA4.out.cell 2
   obtain ⟨z3, y3⟩ := HA4.out.cell 3
   obtain ⟨s0, -⟩ := HS4.out.cell 0
   obtain ⟨s1, -⟩ := HS4.out.cell 1
   obtain ⟨s2, -⟩ := HS4.out.cell 2
   obtain ⟨s3, -⟩ := HS4.out.cell 3
   obtain ⟨ok, hok⟩ : ∃ ok, ok = TL.isSome := ⟨_, rfl⟩
   rw [<- hok]
   have HOK := hide hok
   clear hok
   go_wp2
   refine bodyPost_ret (v := .tuple #[.agg #[.int .i64 dk, .slice la dL.length lc, .bool dsh, .int .i64 dg], .slice ta t.length tc, .bool ok]) (by simp [results, Tryz.results121, go_sem, z0, z1, z2, z3]) rfl ?_
   have hbt := butFourE W4 w.heap.size (.int .i64 dk) (.slice la dL.length lc) (.bool dsh) (.int .i64 dg)
   refine ⟨_, _, ⟨dk, dL, dsh, dg⟩, t, ok, rfl, HL4.out.but hbt (.inr fun k hk => by have := HF2.out k hk; omega), HKE.out.1, HKE.out.2, HE4.out.but hbt (.inr fun k hk => by have := HTF.out k hk; omega), (fun k hk => Nat.le_of_lt (HF2.out k hk)), (fun k hk => Nat.le_of_lt (HTF.out k hk)), (fun h => ?_), (fun h => ?_), belowFourE HB4.out _ (Nat.le_refl _) _ _ _ _⟩
   · rw [HRM.out, if_neg HH3.out]
     cases TL with
     | none => rfl
     | some t' => rw [h] at HOK; cases HOK.out
   · cases TL with
     | none => rw [h] at HOK; cases HOK.out
     | some t' =>
       refine ⟨er, by rw [HRM.out, if_neg HH3.out, HT4.out t' rfl], ?_⟩
       rcases HCO.out with h1 | ⟨h1, h2 | h2⟩
       · exact .inl h1
       · exact absurd h2 HH3.out
       · exact .inr ⟨h2, h1⟩

end Go.Proofs.YtpopbandpnaicaaGreatDoor
