import Derived.Test.YtpopbandpnaicaaGreatDoorSnapDecC
import Derived.Test.YtpopbandpnaicaaGreatDoorPack4
namespace Go.Proofs.YtpopbandpnaicaaGreatDoor
open Go.RowKit

def Bq (w : World) (b : Nat) (cs : Array Value) : Prop := w.heap[b]? = some (.cells cs 149 (0, 0))

theorem Bq.lt {w : World} {b : Nat} {cs : Array Value} (h : Bq w b cs) : b < w.heap.size := (Array.getElem?_eq_some_iff.1 h).1

theorem Bq.below {w w' : World} {b B : Nat} {cs : Array Value} (h : Bq w b cs) (hb : Below B w w') (hB : w.heap.size <= B) : Bq w' b cs := (hb.block b (by have := h.lt; omega)).trans h

theorem Bq.cell {w : World} {b : Nat} {cs : Array Value} (h : Bq w b cs) (j : Nat) : w.cell? ⟨b, j, none⟩ = cs[j]? ∧ w.frozen? ⟨b, j, none⟩ = false := ⟨cell_of_row w b j _ _ _ h, frozen_of_row w b j _ _ h⟩

theorem Bq.set {w : World} {b : Nat} {cs : Array Value} (h : Bq w b cs) (j : Nat) (x : Value) : Bq (w.setCell ⟨b, j, none⟩ x) b (cs.setIfInBounds j x) := by
 have := heap_setCell_same w b j _ _ x h
 unfold Bq
 simpa using this

theorem Bq.other {w : World} {b c : Nat} {cs : Array Value} (h : Bq w b cs) (j : Nat) (x : Value) (hne : b ≠ c) : Bq (w.setCell ⟨c, j, none⟩ x) b cs := (Below.heap_setCell _ _ _ _ hne).trans h

theorem four_new (w : World) (x y z u : Obj) : ((((w.alloc x).alloc y).alloc z).alloc u).heap[w.heap.size]? = some x ∧ ((((w.alloc x).alloc y).alloc z).alloc u).heap[w.heap.size + 1]? = some y ∧ ((((w.alloc x).alloc y).alloc z).alloc u).heap[w.heap.size + 2]? = some z ∧ ((((w.alloc x).alloc y).alloc z).alloc u).heap[w.heap.size + 3]? = some u := by
 obtain ⟨h1, h2, h3⟩ := three_new w x y z
 refine ⟨(Below.heap_alloc _ _ _ (by simp; omega)).trans h1, (Below.heap_alloc _ _ _ (by simp)).trans h2, (Below.heap_alloc _ _ _ (by simp)).trans h3, ?_⟩
 have := heap_alloc_new (((w.alloc x).alloc y).alloc z) u
 simpa using this

theorem maniL_gets {d : List UInt8} (h : ¬ (d.length < 1 ∨ (d.getD 0 0).toNat ≠ 115)) : maniL d = match getsL 3 (d.drop 1) with
   | none => (0, 0, 0, 3)
   | some (ns, l) => if ns.getD 0 0 ≠ 3 then (0, 0, 0, 6) else if l.length ≠ 4 then (0, 0, 0, 3) else (ns.getD 1 0, ns.getD 2 0, Lib.leNat l, 0) := by
 unfold maniL
 rw [if_neg h, getsL]
 by_cases h1 : (dec62 (d.drop 1)).2 = 0
 · rw [if_pos (.inl h1), if_pos h1]
 rw [if_neg h1, getsL]
 simp only [List.drop_drop]
 by_cases h2 : (dec62 (d.drop (1 + (dec62 (d.drop 1)).2))).2 = 0
 · rw [if_pos (.inr (.inl h2)), if_pos h2]
   rfl
 rw [if_neg h2, getsL_one]
 simp only [List.drop_drop]
 by_cases h3 : (dec62 (d.drop (1 + (dec62 (d.drop 1)).2 + (dec62 (d.drop (1 + (dec62 (d.drop 1)).2))).2))).2 = 0
 · rw [if_pos (.inr (.inr h3)), if_pos h3]
   rfl
 · rw [if_neg (by omega), if_neg h3]
   simp only [Option.map_some, List.getD_cons_zero, List.getD_cons_succ]

theorem getsL_len : ∀ (n : Nat) (b : List UInt8) (ns : List Nat) (l : List UInt8), getsL n b = some (ns, l) -> ns.length = n
 | 0, b, ns, l, h => by
   injection h with h
   injection h with h _
   rw [<- h]
   rfl
 | n + 1, b, ns, l, h => by
   rw [getsL] at h
   split at h
   · cases h
   · cases hg : getsL n (b.drop (dec62 b).2) with
     | none => rw [hg] at h; cases h
     | some r =>
       rw [hg] at h
       injection h with h
       injection h with h _
       obtain ⟨ms, m⟩ := r
       rw [<- h, List.length_cons, getsL_len n _ ms m hg]

theorem box_three {W : World} {R Q : Nat} (hne : R ≠ Q) (h : Bq W R #[.int .i64 0, .int .i64 0, .int .u32 0]) (hq : W.heap[Q]? = some (.cells #[.int .i64 0] 3 (0, 0))) (ns : List Nat) (hn : ns.length <= 3) :
   ∃ u x y : Int, Bq (setAt W ([(Q, 0), (R, 0), (R, 1)].take ns.length) ns) R #[.int .i64 x, .int .i64 y, .int .u32 0] ∧ (setAt W ([(Q, 0), (R, 0), (R, 1)].take ns.length) ns).cell? ⟨Q, 0, none⟩ = some (.int .i64 u) ∧ (ns.length = 3 -> u = ((ns.getD 0 0 : Nat) : Int) ∧ x = ((ns.getD 1 0 : Nat) : Int) ∧ y = ((ns.getD 2 0 : Nat) : Int)) := by
 have hq0 : W.cell? ⟨Q, 0, none⟩ = some (.int .i64 0) := cell_of_row W Q 0 _ _ _ hq
 match ns, hn with
 | [], _ => exact ⟨0, 0, 0, h, hq0, fun h => absurd h (by simp)⟩
 | [a], _ => exact ⟨a, 0, 0, h.other 0 _ hne, World.cell?_setCell_same _ _ _ hq0, fun h => absurd h (by simp)⟩
 | [a, b], _ =>
   refine ⟨a, b, 0, (h.other 0 _ hne).set 0 _, ?_, fun h => absurd h (by simp)⟩
   show ((W.setCell ⟨Q, 0, none⟩ _).setCell ⟨R, 0, none⟩ _).cell? ⟨Q, 0, none⟩ = _
   rw [World.cell?_setCell_other _ _ _ _ (by simp)]
   exact World.cell?_setCell_same _ _ _ hq0
 | [a, b, c], _ =>
   refine ⟨a, b, c, ((h.other 0 _ hne).set 0 _).set 1 _, ?_, fun _ => ⟨rfl, rfl, rfl⟩⟩
   show (((W.setCell ⟨Q, 0, none⟩ _).setCell ⟨R, 0, none⟩ _).setCell ⟨R, 1, none⟩ _).cell? ⟨Q, 0, none⟩ = _
   rw [World.cell?_setCell_other _ _ _ _ (by simp), World.cell?_setCell_other _ _ _ _ (by simp)]
   exact World.cell?_setCell_same _ _ _ hq0

def ReadM (w : World) (r : Nat × Nat × Nat × Int) (e : Ending) (w' : World) : Prop :=
 e = .returned (.tuple #[.agg #[.int .i64 (r.1 : Int), .int .i64 (r.2.1 : Int), .int .u32 (r.2.2.1 : Int)], .int .i64 r.2.2.2]) ∧ Below w.heap.size w w'

theorem belowTriE {C : Nat} {w0 w : World} (h : Below C w0 w) (R : Nat) (hR : C <= R) (x0 x1 x2 : Value) : Below C w0 (((w.setCell ⟨R, 0, none⟩ x0).setCell ⟨R, 1, none⟩ x1).setCell ⟨R, 2, none⟩ x2) :=
 ((h.setCell hR _).setCell hR _).setCell hR _

set_option maxRecDepth 100000 in
set_option maxHeartbeats 4000000 in
theorem readManifest_any (v : Value) (d : List UInt8) (w : World) (hr : Rd w v d) :
   Calls Tryz.prog 119 #[v] w fun e w' => ReadM w (maniL d) e w' := by
 have HR := hide hr
 obtain ⟨ao, cap, rfl, hlc, hcm, -, hao⟩ := hr
 have hml : (d.length : Int) <= 9223372036854775807 := by unfold maxLen at hcm; omega
 have HB0 : Hid (∀ X, Below w.heap.size w (w.alloc X)) := fun X => (Below.refl _ _).alloc (Nat.le_refl _) X
 by_cases h0 : d.length = 0
 · have HE : Hid (maniL d = (0, 0, 0, 3)) := hide (by unfold maniL; rw [if_pos (.inl (by omega))])
   have h0' : ((d.length : Int) == 0) = true := by rw [beq_iff_eq]; omega
   rw [HE.out]
   clear h0 hao
   go_enter Tryz.func119, Tryz.ntmps119
   go_wp2
   refine bodyPost_ret (v := .tuple #[.agg #[.int .i64 0, .int .i64 0, .int .u32 0], .int .i64 3]) (by simp [results, Tryz.results119, go_sem]) rfl ?_
   exact ⟨rfl, HB0.out _⟩
 have h0' : ((d.length : Int) == 0) = false := beq_eq_false_iff_ne.2 (by omega)
 have hpos : (0 : Int) < (d.length : Int) := by omega
 have hne : d ≠ [] := fun e => by rw [e] at h0; simp at h0
 rcases hao with he | ⟨b, off, rfl, hc⟩
 · exact absurd he hne
 have hc0 := hc 0 (by omega)
 have hbl : b < w.heap.size := World.block_lt_of_cell? w ⟨b, off + 0, none⟩ hc0
 have hck : ∀ X, (w.alloc X).cell? ⟨b, off, none⟩ = some (.int .u8 ((d.getD 0 0).toNat : Nat)) := fun X => ((HB0.out X).cell (p := ⟨b, off, none⟩) hbl).trans hc0
 clear hc hc0 hcm
 by_cases hm : (d.getD 0 0).toNat = 115
 case neg =>
   have HE : Hid (maniL d = (0, 0, 0, 3)) := hide (by unfold maniL; rw [if_pos (.inr hm)])
   have hm' : ((((d.getD 0 0).toNat : Nat) : Int) != 115) = true := by
     rw [bne_iff_ne]
     omega
   rw [HE.out]
   clear hm hne h0
   generalize (((d.getD 0 0).toNat : Nat) : Int) = c0 at *
   go_enter Tryz.func119, Tryz.ntmps119
   go_wp2
   refine bodyPost_ret (v := .tuple #[.agg #[.int .i64 0, .int .i64 0, .int .u32 0], .int .i64 3]) (by simp [results, Tryz.results119, go_sem]) rfl ?_
   exact ⟨rfl, HB0.out _⟩
 have hm' : ((((d.getD 0 0).toNat : Nat) : Int) != 115) = false := by
   rw [hm]
   rfl
 have HMG := hide (maniL_gets (d := d) (by omega))
 generalize (((d.getD 0 0).toNat : Nat) : Int) = c0 at *
 obtain ⟨xa, xc, hcut, hcv⟩ := cut_from (some ⟨b, off, none⟩) d cap hlc 1 (by omega)
 have hcut' : ∀ W, (Instr.sliceAt 53 (.slice (some ⟨b, off, none⟩) d.length cap) (some (.int .i64 1)) none none).run Tryz.prog W = .ok (.slice xa (d.drop 1).length xc) W := hcut
 have HCV := hide (fun W h => hcv W h)
 obtain ⟨W0, hW0⟩ : ∃ W0, W0 = (((w.alloc (.cells #[.int .i64 0, .int .i64 0, .int .u32 0] 149)).alloc (.cells #[.int .i64 0, .int .i64 0, .int .u32 0] 149)).alloc (.cells #[.int .i64 0] 3)).alloc (.cells #[.pointer (some ⟨w.heap.size + 1 + 1, 0, none⟩), .pointer (some ⟨w.heap.size + 1, 0, none⟩), .pointer (some ⟨w.heap.size + 1, 1, none⟩)] 210) := ⟨_, rfl⟩
 have h4 := four_new w (.cells #[.int .i64 0, .int .i64 0, .int .u32 0] 149) (.cells #[.int .i64 0, .int .i64 0, .int .u32 0] 149) (.cells #[.int .i64 0] 3) (.cells #[.pointer (some ⟨w.heap.size + 1 + 1, 0, none⟩), .pointer (some ⟨w.heap.size + 1, 0, none⟩), .pointer (some ⟨w.heap.size + 1, 1, none⟩)] 210)
 rw [<- hW0] at h4
 obtain ⟨hA, hB, hQ, hC⟩ := h4
 have HB00 : Hid (Below w.heap.size w W0) := hide (by rw [hW0]; exact ((((Below.refl _ _).alloc (Nat.le_refl _) _).alloc (by simp) _).alloc (by simp; omega) _).alloc (by simp; omega) _)
 have hEA : Bq W0 w.heap.size #[.int .i64 0, .int .i64 0, .int .u32 0] := hA
 have hEB : Bq W0 (w.heap.size + 1) #[.int .i64 0, .int .i64 0, .int .u32 0] := hB
 have HGN := hide (getNumbers_any (w.heap.size + 1 + 1 + 1) [(w.heap.size + 1 + 1, 0), (w.heap.size + 1, 0), (w.heap.size + 1, 1)] (.slice xa (d.drop 1).length xc) (d.drop 1) W0 (HCV.out W0 (HR.out.below HB00.out (Nat.le_refl _))) (fun p hp => by
   simp only [List.mem_cons, List.not_mem_nil, or_false] at hp
   rcases hp with rfl | rfl | rfl
   · exact ⟨⟨⟨0, cell_of_row W0 (w.heap.size + 2) 0 _ _ _ hQ⟩, frozen_of_row W0 (w.heap.size + 2) 0 _ _ hQ⟩, by simp⟩
   · exact ⟨⟨⟨0, (hEB.cell 0).1⟩, (hEB.cell 0).2⟩, by simp⟩
   · exact ⟨⟨⟨0, (hEB.cell 1).1⟩, (hEB.cell 1).2⟩, by simp⟩) (by simp) hC 3 rfl)
 have HBX := hide (fun ns h => box_three (Q := w.heap.size + 1 + 1) (by omega) hEB hQ ns h)
 have HSB : Hid (∀ ns, Below w.heap.size w (setAt W0 ([(w.heap.size + 1 + 1, 0), (w.heap.size + 1, 0), (w.heap.size + 1, 1)].take (List.length ns)) ns)) := hide (fun ns => setAt_below W0 _ ns _ w (fun p hp => by
   have := List.mem_of_mem_take hp
   simp only [List.mem_cons, List.not_mem_nil, or_false] at this
   rcases this with rfl | rfl | rfl <;> (simp only; omega)) HB00.out)
 have HSA : Hid (∀ ns, Bq (setAt W0 ([(w.heap.size + 1 + 1, 0), (w.heap.size + 1, 0), (w.heap.size + 1, 1)].take (List.length ns)) ns) w.heap.size #[.int .i64 0, .int .i64 0, .int .u32 0]) := hide (fun ns => (setAt_block W0 _ ns _ (fun p hp => by
   have := List.mem_of_mem_take hp
   simp only [List.mem_cons, List.not_mem_nil, or_false] at this
   rcases this with rfl | rfl | rfl <;> (simp only; omega))).trans hEA)
 have HFX := hide (fun v1 l W h => fixed_any v1 l W h)
 have HLN := hide (fun ns l h => getsL_len 3 (d.drop 1) ns l h)
 have HLEN : Hid ([(w.heap.size + 1 + 1, 0), (w.heap.size + 1, 0), (w.heap.size + 1, 1)].length = 3) := hide rfl
 rw [HLEN.out] at HGN
 generalize getsL 3 (d.drop 1) = GL at *
 obtain ⟨RM, hRM⟩ : ∃ RM, RM = maniL d := ⟨_, rfl⟩
 rw [<- hRM] at HMG ⊢
 clear hRM hcut hcv hA hB hQ hC hEA hEB hm hne h0 HLEN
 generalize d.drop 1 = D1 at *
 go_enter Tryz.func119, Tryz.ntmps119
 go_wp2_with fail
 rw [<- hW0]
 refine HGN.out.mono ?_
 rintro e W1 ⟨v1, l, ns, rfl, hr1, hn1, hs1, hlt1, hle1, hal1⟩
 obtain ⟨uu, xx, yy, hbx, hbq, hxy⟩ := HBX.out ns hle1
 have HE1 : Hid (Bq W1 (w.heap.size + 1) #[.int .i64 xx, .int .i64 yy, .int .u32 0]) := hide (hbx.below (hal1.below (setAt W0 ([(w.heap.size + 1 + 1, 0), (w.heap.size + 1, 0), (w.heap.size + 1, 1)].take ns.length) ns).heap.size) (Nat.le_refl _))
 have HA1 : Hid (Bq W1 w.heap.size #[.int .i64 0, .int .i64 0, .int .u32 0]) := hide ((HSA.out ns).below (hal1.below (setAt W0 ([(w.heap.size + 1 + 1, 0), (w.heap.size + 1, 0), (w.heap.size + 1, 1)].take ns.length) ns).heap.size) (Nat.le_refl _))
 have hcv : W1.cell? ⟨w.heap.size + 1 + 1, 0, none⟩ = some (.int .i64 uu) := by rw [hal1.cell]; exact hbq
 have HB1 : Hid (Below w.heap.size w W1) := hide ((HSB.out ns).trans (hal1.below _))
 have HR1 := hide (hr1 W1 (HCV.out W1 (HR.out.below HB1.out (Nat.le_refl _))))
 obtain ⟨a1, c1, hv1⟩ : ∃ a c, v1 = .slice a l.length c := by obtain ⟨a, c, h, -⟩ := HR1.out; exact ⟨a, c, h⟩
 subst hv1
 obtain ⟨z0, y0⟩ := HA1.out.cell 0
 obtain ⟨z1, y1⟩ := HA1.out.cell 1
 obtain ⟨z2, y2⟩ := HA1.out.cell 2
 clear HGN HBX HSB HSA hW0 hbx hbq hal1 hr1 hlt1 hle1 HB00 hck hcut' HB0
 cases GL with
 | none =>
   have HE : Hid (RM = (0, 0, 0, 3)) := hide HMG.out
   clear hn1 hs1 hxy HMG HLN
   go_wp2
   refine bodyPost_ret (v := .tuple #[.agg #[.int .i64 0, .int .i64 0, .int .u32 0], .int .i64 3]) (by simp [results, Tryz.results119, go_sem, z0, z1, z2]) rfl ?_
   rw [HE.out]
   exact ⟨rfl, belowTriE HB1.out _ (Nat.le_refl _) _ _ _⟩
 | some gp =>
   have := hs1 gp rfl
   subst this
   obtain ⟨g1, g2, g3⟩ := hxy (HLN.out _ _ rfl)
   have HM2 : Hid (RM = if ns.getD 0 0 ≠ 3 then (0, 0, 0, 6) else if l.length ≠ 4 then (0, 0, 0, 3) else (ns.getD 1 0, ns.getD 2 0, Lib.leNat l, 0)) := hide HMG.out
   clear hn1 hs1 hxy HMG HLN
   generalize ns.getD 0 0 = n0 at *
   generalize ns.getD 1 0 = n1 at *
   generalize ns.getD 2 0 = n2 at *
   subst g1 g2 g3
   by_cases hv3 : n0 = 3
   case neg =>
     have HE : Hid (RM = (0, 0, 0, 6)) := hide (by rw [HM2.out, if_pos hv3])
     have hv3' : ((n0 : Int) != 3) = true := by rw [bne_iff_ne]; omega
     clear hv3 HM2
     go_wp2
     refine bodyPost_ret (v := .tuple #[.agg #[.int .i64 0, .int .i64 0, .int .u32 0], .int .i64 6]) (by simp [results, Tryz.results119, go_sem, z0, z1, z2]) rfl ?_
     rw [HE.out]
     exact ⟨rfl, belowTriE HB1.out _ (Nat.le_refl _) _ _ _⟩
   have hv3' : ((n0 : Int) != 3) = false := by rw [bne_eq_false_iff_eq]; omega
   by_cases hl4 : l.length = 4
   case neg =>
     have HE : Hid (RM = (0, 0, 0, 3)) := hide (by rw [HM2.out, if_neg (by omega), if_pos hl4])
     have hl4' : ((l.length : Int) != 4) = true := by rw [bne_iff_ne]; omega
     clear hv3 HM2 hl4
     go_wp2
     refine bodyPost_ret (v := .tuple #[.agg #[.int .i64 0, .int .i64 0, .int .u32 0], .int .i64 3]) (by simp [results, Tryz.results119, go_sem, z0, z1, z2]) rfl ?_
     rw [HE.out]
     exact ⟨rfl, belowTriE HB1.out _ (Nat.le_refl _) _ _ _⟩
   have hl4' : ((l.length : Int) != 4) = false := by rw [bne_eq_false_iff_eq]; omega
   have HE : Hid (RM = (n1, n2, Lib.leNat l, 0)) := hide (by rw [HM2.out, if_neg (by omega), if_neg (by omega)])
   have HFQ := hide (HFX.out _ l W1 HR1.out)
   rw [List.take_of_length_le (by omega)] at HFQ
   have hlt : Lib.leNat l < 4294967296 := by
     have := leNat_lt l
     rw [hl4] at this
     exact this
   have HL4 : Hid (l.length = 4) := hide hl4
   generalize Lib.leNat l = cc at *
   clear hv3 HM2 hl4
   obtain ⟨e0, f0⟩ := HE1.out.cell 0
   obtain ⟨e1, f1⟩ := HE1.out.cell 1
   obtain ⟨e2, f2⟩ := HE1.out.cell 2
   have hne1 : ¬ (w.heap.size = w.heap.size + 1) := by omega
   have hne2 : ¬ (w.heap.size + 1 = w.heap.size) := by omega
   have hcv32 : IntKind.u32.wrap (cc : Int) = (cc : Int) := by
     rw [IntKind.wrap_u32]
     omega
   have hci : (0 : Int) <= (cc : Int) := by omega
   have hcj : (cc : Int) < 4294967296 := by omega
   obtain ⟨CC, hCC⟩ : ∃ CC : Int, CC = (cc : Int) := ⟨_, rfl⟩
   obtain ⟨N1, hN1⟩ : ∃ N1 : Int, N1 = (n1 : Int) := ⟨_, rfl⟩
   obtain ⟨N2, hN2⟩ : ∃ N2 : Int, N2 = (n2 : Int) := ⟨_, rfl⟩
   rw [<- hCC] at HFQ hcv32 hci hcj
   rw [<- hN1] at e0
   rw [<- hN2] at e1
   have HCC := hide hCC
   have HN1 := hide hN1
   have HN2 := hide hN2
   clear hCC hN1 hN2 hlt
   clear HL4
   go_wp2_with fail
   refine HFQ.out.mono ?_
   rintro e W2 ⟨rfl, hw2⟩
   rw [hw2]
   clear hw2 W2
   go_wp2
   refine bodyPost_ret (v := .tuple #[.agg #[.int .i64 N1, .int .i64 N2, .int .u32 CC], .int .i64 0]) (by simp [results, Tryz.results119, go_sem, z0, z1, z2]) rfl ?_
   rw [HE.out]
   exact ⟨by rw [HCC.out, HN1.out, HN2.out], belowTriE (HB1.out.setCell (Nat.le_succ _) _) _ (Nat.le_refl _) _ _ _⟩

end Go.Proofs.YtpopbandpnaicaaGreatDoor
