import Derived.Test.YtanmjihiceibbaaPack6
import Derived.Test.YtanmjihiceibbaaPack3
import Derived.Test.YtanmjihiceibbaaSnapEncA
import Derived.Deep.RegionHeld
import Derived.Test.YtanmjihiceibbaaFrameOwn
import Derived.Deep.QuietTactic
import Derived.BigQuiet
import Derived.Test.YtanmjihiceibbaaSnapOwnA
/- Contracts of snapshot: readManifest. -/
namespace Go.Proofs.Ytanmjihiceibbaa
open Go.RowKit

/-- A manifest's box, by its cells. -/
def Bq (w : World) (b : Nat) (cs : Array Value) : Prop := w.heap[b]? = some (.cells cs 54 (0, 0))

theorem Bq.lt {w : World} {b : Nat} {cs : Array Value} (h : Bq w b cs) : b < w.heap.size := (Array.getElem?_eq_some_iff.1 h).1

theorem Bq.below {w w' : World} {b B : Nat} {cs : Array Value} (h : Bq w b cs) (hb : Below B w w') (hB : w.heap.size ≤ B) : Bq w' b cs := (hb.block b (by have := h.lt; omega)).trans h

theorem Bq.cell {w : World} {b : Nat} {cs : Array Value} (h : Bq w b cs) (j : Nat) : w.cell? ⟨b, j, none⟩ = cs[j]? ∧ w.frozen? ⟨b, j, none⟩ = false := ⟨cell_of_row w b j _ _ _ h, frozen_of_row w b j _ _ h⟩

theorem Bq.set {w : World} {b : Nat} {cs : Array Value} (h : Bq w b cs) (j : Nat) (x : Value) : Bq (w.setCell ⟨b, j, none⟩ x) b (cs.setIfInBounds j x) := by
  have := heap_setCell_same w b j _ _ x h
  unfold Bq
  simpa using this

theorem Bq.other {w : World} {b c : Nat} {cs : Array Value} (h : Bq w b cs) (j : Nat) (x : Value) (hne : b ≠ c) : Bq (w.setCell ⟨c, j, none⟩ x) b cs := (Below.heap_setCell _ _ _ _ hne).trans h

theorem four_new (w : World) (x y z u : Obj) : ((((w.alloc x).alloc y).alloc z).alloc u).heap[w.heap.size]? = some x ∧ ((((w.alloc x).alloc y).alloc z).alloc u).heap[w.heap.size + 1]? = some y ∧ ((((w.alloc x).alloc y).alloc z).alloc u).heap[w.heap.size + 2]? = some z ∧ ((((w.alloc x).alloc y).alloc z).alloc u).heap[w.heap.size + 3]? = some u := by
  obtain ⟨h1, h2, h3⟩ := three_new w x y z
  refine ⟨(Below.heap_alloc _ _ _ (by simp; omega)).trans h1, (Below.heap_alloc _ _ _ (by simp)).trans h2, (Below.heap_alloc _ _ _ (by simp)).trans h3, ?_⟩
  have := heap_alloc_new (((w.alloc x).alloc y).alloc z) u
  simpa using this

theorem maniL_gets {d : List UInt8} (h : ¬ (d.length < 1 ∨ (d.getD 0 0).toNat ≠ 115)) : maniL d = match getsL 3 (d.drop 1) with
    | none => (0, 0, 0, 3)
    | some (ns, l) => if ns.getD 0 0 ≠ 3 then (0, 0, 0, 6) else if l.length ≠ 4 then (0, 0, 0, 3) else (ns.getD 1 0, ns.getD 2 0, Lib.leNat l, 0) := by
  unfold maniL
  rw [if_neg h, getsL]
  by_cases h1 : (dec62 (d.drop 1)).2 = 0
  · rw [if_pos (.inl h1), if_pos h1]
  rw [if_neg h1, getsL]
  simp only [List.drop_drop]
  by_cases h2 : (dec62 (d.drop (1 + (dec62 (d.drop 1)).2))).2 = 0
  · rw [if_pos (.inr (.inl h2)), if_pos h2]
    rfl
  rw [if_neg h2, getsL_one]
  simp only [List.drop_drop]
  by_cases h3 : (dec62 (d.drop (1 + (dec62 (d.drop 1)).2 + (dec62 (d.drop (1 + (dec62 (d.drop 1)).2))).2))).2 = 0
  · rw [if_pos (.inr (.inr h3)), if_pos h3]
    rfl
  · rw [if_neg (by omega), if_neg h3]
    simp only [Option.map_some, List.getD_cons_zero, List.getD_cons_succ]

theorem getsL_len : ∀ (n : Nat) (b : List UInt8) (ns : List Nat) (l : List UInt8), getsL n b = some (ns, l) → ns.length = n
  | 0, b, ns, l, h => by
    injection h with h
    injection h with h _
    rw [← h]
    rfl
  | n + 1, b, ns, l, h => by
    rw [getsL] at h
    split at h
    · cases h
    · cases hg : getsL n (b.drop (dec62 b).2) with
      | none => rw [hg] at h; cases h
      | some r =>
        rw [hg] at h
        injection h with h
        injection h with h _
        obtain ⟨ms, m⟩ := r
        rw [← h, List.length_cons, getsL_len n _ ms m hg]

/-- The boxes behind the reading of three numbers. -/
theorem box_three {W : World} {R Q : Nat} (hne : R ≠ Q) (h : Bq W R #[.int .i64 0, .int .i64 0, .int .u32 0]) (hq : W.heap[Q]? = some (.cells #[.int .i64 0] 3 (0, 0))) (ns : List Nat) (hn : ns.length ≤ 3) :
    ∃ u x y : Int, Bq (setAt W ([(Q, 0), (R, 0), (R, 1)].take ns.length) ns) R #[.int .i64 x, .int .i64 y, .int .u32 0] ∧ (setAt W ([(Q, 0), (R, 0), (R, 1)].take ns.length) ns).cell? ⟨Q, 0, none⟩ = some (.int .i64 u) ∧ (ns.length = 3 → u = ((ns.getD 0 0 : Nat) : Int) ∧ x = ((ns.getD 1 0 : Nat) : Int) ∧ y = ((ns.getD 2 0 : Nat) : Int)) := by
  have hq0 : W.cell? ⟨Q, 0, none⟩ = some (.int .i64 0) := cell_of_row W Q 0 _ _ _ hq
  match ns, hn with
  | [], _ => exact ⟨0, 0, 0, h, hq0, fun h => absurd h (by simp)⟩
  | [a], _ => exact ⟨a, 0, 0, h.other 0 _ hne, World.cell?_setCell_same _ _ _ hq0, fun h => absurd h (by simp)⟩
  | [a, b], _ =>
    refine ⟨a, b, 0, (h.other 0 _ hne).set 0 _, ?_, fun h => absurd h (by simp)⟩
    show ((W.setCell ⟨Q, 0, none⟩ _).setCell ⟨R, 0, none⟩ _).cell? ⟨Q, 0, none⟩ = _
    rw [World.cell?_setCell_other _ _ _ _ (by simp)]
    exact World.cell?_setCell_same _ _ _ hq0
  | [a, b, c], _ =>
    refine ⟨a, b, c, ((h.other 0 _ hne).set 0 _).set 1 _, ?_, fun _ => ⟨rfl, rfl, rfl⟩⟩
    show (((W.setCell ⟨Q, 0, none⟩ _).setCell ⟨R, 0, none⟩ _).setCell ⟨R, 1, none⟩ _).cell? ⟨Q, 0, none⟩ = _
    rw [World.cell?_setCell_other _ _ _ _ (by simp), World.cell?_setCell_other _ _ _ _ (by simp)]
    exact World.cell?_setCell_same _ _ _ hq0

/-- What readManifest answers. -/
def ReadM (w : World) (r : Nat × Nat × Nat × Int) (e : Ending) (w' : World) : Prop :=
  e = .returned (.tuple #[.agg #[.int .i64 (r.1 : Int), .int .i64 (r.2.1 : Int), .int .u32 (r.2.2.1 : Int)], .int .i64 r.2.2.2]) ∧ Below w.heap.size w w'

theorem belowTriE {C : Nat} {w0 w : World} (h : Below C w0 w) (R : Nat) (hR : C ≤ R) (x0 x1 x2 : Value) : Below C w0 (((w.setCell ⟨R, 0, none⟩ x0).setCell ⟨R, 1, none⟩ x1).setCell ⟨R, 2, none⟩ x2) :=
  ((h.setCell hR _).setCell hR _).setCell hR _

set_option maxRecDepth 100000 in
set_option maxHeartbeats 4000000 in
theorem readManifest_any (v : Value) (d : List UInt8) (w : World) (hr : Rd w v d) :
    Calls Try.prog 50 #[v] w fun e w' => ReadM w (maniL d) e w' := by
  have HR := hide hr
  obtain ⟨ao, cap, rfl, hlc, hcm, -, hao⟩ := hr
  have hml : (d.length : Int) ≤ 9223372036854775807 := by unfold maxLen at hcm; omega
  have HB0 : Hid (∀ X, Below w.heap.size w (w.alloc X)) := fun X => (Below.refl _ _).alloc (Nat.le_refl _) X
  by_cases h0 : d.length = 0
  · have HE : Hid (maniL d = (0, 0, 0, 3)) := hide (by unfold maniL; rw [if_pos (.inl (by omega))])
    have h0' : ((d.length : Int) == 0) = true := by rw [beq_iff_eq]; omega
    rw [HE.out]
    clear h0 hao
    go_enter Try.func50, Try.ntmps50
    go_wp2
    refine bodyPost_ret (v := .tuple #[.agg #[.int .i64 0, .int .i64 0, .int .u32 0], .int .i64 3]) (by simp [results, Try.results50, go_sem]) rfl ?_
    exact ⟨rfl, HB0.out _⟩
  have h0' : ((d.length : Int) == 0) = false := beq_eq_false_iff_ne.2 (by omega)
  have hpos : (0 : Int) < (d.length : Int) := by omega
  have hne : d ≠ [] := fun e => by rw [e] at h0; simp at h0
  rcases hao with he | ⟨b, off, rfl, hc⟩
  · exact absurd he hne
  have hc0 := hc 0 (by omega)
  have hbl : b < w.heap.size := World.block_lt_of_cell? w ⟨b, off + 0, none⟩ hc0
  have hck : ∀ X, (w.alloc X).cell? ⟨b, off, none⟩ = some (.int .u8 ((d.getD 0 0).toNat : Nat)) := fun X => ((HB0.out X).cell (p := ⟨b, off, none⟩) hbl).trans hc0
  clear hc hc0 hcm
  by_cases hm : (d.getD 0 0).toNat = 115
  case neg =>
    have HE : Hid (maniL d = (0, 0, 0, 3)) := hide (by unfold maniL; rw [if_pos (.inr hm)])
    have hm' : ((((d.getD 0 0).toNat : Nat) : Int) != 115) = true := by
      rw [bne_iff_ne]
      omega
    rw [HE.out]
    clear hm hne h0
    generalize (((d.getD 0 0).toNat : Nat) : Int) = c0 at *
    go_enter Try.func50, Try.ntmps50
    go_wp2
    refine bodyPost_ret (v := .tuple #[.agg #[.int .i64 0, .int .i64 0, .int .u32 0], .int .i64 3]) (by simp [results, Try.results50, go_sem]) rfl ?_
    exact ⟨rfl, HB0.out _⟩
  have hm' : ((((d.getD 0 0).toNat : Nat) : Int) != 115) = false := by
    rw [hm]
    rfl
  have HMG := hide (maniL_gets (d := d) (by omega))
  generalize (((d.getD 0 0).toNat : Nat) : Int) = c0 at *
  obtain ⟨xa, xc, hcut, hcv⟩ := cut_from (some ⟨b, off, none⟩) d cap hlc 1 (by omega)
  have hcut' : ∀ W, (Instr.sliceAt 30 (.slice (some ⟨b, off, none⟩) d.length cap) (some (.int .i64 1)) none none).run Try.prog W = .ok (.slice xa (d.drop 1).length xc) W := hcut
  have HCV := hide (fun W h => hcv W h)
  obtain ⟨W0, hW0⟩ : ∃ W0, W0 = (((w.alloc (.cells #[.int .i64 0, .int .i64 0, .int .u32 0] 54)).alloc (.cells #[.int .i64 0, .int .i64 0, .int .u32 0] 54)).alloc (.cells #[.int .i64 0] 3)).alloc (.cells #[.pointer (some ⟨w.heap.size + 1 + 1, 0, none⟩), .pointer (some ⟨w.heap.size + 1, 0, none⟩), .pointer (some ⟨w.heap.size + 1, 1, none⟩)] 101) := ⟨_, rfl⟩
  have h4 := four_new w (.cells #[.int .i64 0, .int .i64 0, .int .u32 0] 54) (.cells #[.int .i64 0, .int .i64 0, .int .u32 0] 54) (.cells #[.int .i64 0] 3) (.cells #[.pointer (some ⟨w.heap.size + 1 + 1, 0, none⟩), .pointer (some ⟨w.heap.size + 1, 0, none⟩), .pointer (some ⟨w.heap.size + 1, 1, none⟩)] 101)
  rw [← hW0] at h4
  obtain ⟨hA, hB, hQ, hC⟩ := h4
  have HB00 : Hid (Below w.heap.size w W0) := hide (by rw [hW0]; exact ((((Below.refl _ _).alloc (Nat.le_refl _) _).alloc (by simp) _).alloc (by simp; omega) _).alloc (by simp; omega) _)
  have hEA : Bq W0 w.heap.size #[.int .i64 0, .int .i64 0, .int .u32 0] := hA
  have hEB : Bq W0 (w.heap.size + 1) #[.int .i64 0, .int .i64 0, .int .u32 0] := hB
  have HGN := hide (getNumbers_any (w.heap.size + 1 + 1 + 1) [(w.heap.size + 1 + 1, 0), (w.heap.size + 1, 0), (w.heap.size + 1, 1)] (.slice xa (d.drop 1).length xc) (d.drop 1) W0 (HCV.out W0 (HR.out.below HB00.out (Nat.le_refl _))) (fun p hp => by
    simp only [List.mem_cons, List.not_mem_nil, or_false] at hp
    rcases hp with rfl | rfl | rfl
    · exact ⟨⟨⟨0, cell_of_row W0 (w.heap.size + 2) 0 _ _ _ hQ⟩, frozen_of_row W0 (w.heap.size + 2) 0 _ _ hQ⟩, by simp⟩
    · exact ⟨⟨⟨0, (hEB.cell 0).1⟩, (hEB.cell 0).2⟩, by simp⟩
    · exact ⟨⟨⟨0, (hEB.cell 1).1⟩, (hEB.cell 1).2⟩, by simp⟩) (by simp) hC 3 rfl)
  have HBX := hide (fun ns h => box_three (Q := w.heap.size + 1 + 1) (by omega) hEB hQ ns h)
  have HSB : Hid (∀ ns, Below w.heap.size w (setAt W0 ([(w.heap.size + 1 + 1, 0), (w.heap.size + 1, 0), (w.heap.size + 1, 1)].take (List.length ns)) ns)) := hide (fun ns => setAt_below W0 _ ns _ w (fun p hp => by
    have := List.mem_of_mem_take hp
    simp only [List.mem_cons, List.not_mem_nil, or_false] at this
    rcases this with rfl | rfl | rfl <;> (simp only; omega)) HB00.out)
  have HSA : Hid (∀ ns, Bq (setAt W0 ([(w.heap.size + 1 + 1, 0), (w.heap.size + 1, 0), (w.heap.size + 1, 1)].take (List.length ns)) ns) w.heap.size #[.int .i64 0, .int .i64 0, .int .u32 0]) := hide (fun ns => (setAt_block W0 _ ns _ (fun p hp => by
    have := List.mem_of_mem_take hp
    simp only [List.mem_cons, List.not_mem_nil, or_false] at this
    rcases this with rfl | rfl | rfl <;> (simp only; omega))).trans hEA)
  have HFX := hide (fun v1 l W h => fixed_any v1 l W h)
  have HLN := hide (fun ns l h => getsL_len 3 (d.drop 1) ns l h)
  have HLEN : Hid ([(w.heap.size + 1 + 1, 0), (w.heap.size + 1, 0), (w.heap.size + 1, 1)].length = 3) := hide rfl
  rw [HLEN.out] at HGN
  generalize getsL 3 (d.drop 1) = GL at *
  obtain ⟨RM, hRM⟩ : ∃ RM, RM = maniL d := ⟨_, rfl⟩
  rw [← hRM] at HMG ⊢
  clear hRM hcut hcv hA hB hQ hC hEA hEB hm hne h0 HLEN
  generalize d.drop 1 = D1 at *
  go_enter Try.func50, Try.ntmps50
  go_wp2_with fail
  rw [← hW0]
  refine HGN.out.mono ?_
  rintro e W1 ⟨v1, l, ns, rfl, hr1, hn1, hs1, hlt1, hle1, hal1⟩
  obtain ⟨uu, xx, yy, hbx, hbq, hxy⟩ := HBX.out ns hle1
  have HE1 : Hid (Bq W1 (w.heap.size + 1) #[.int .i64 xx, .int .i64 yy, .int .u32 0]) := hide (hbx.below (hal1.below (setAt W0 ([(w.heap.size + 1 + 1, 0), (w.heap.size + 1, 0), (w.heap.size + 1, 1)].take ns.length) ns).heap.size) (Nat.le_refl _))
  have HA1 : Hid (Bq W1 w.heap.size #[.int .i64 0, .int .i64 0, .int .u32 0]) := hide ((HSA.out ns).below (hal1.below (setAt W0 ([(w.heap.size + 1 + 1, 0), (w.heap.size + 1, 0), (w.heap.size + 1, 1)].take ns.length) ns).heap.size) (Nat.le_refl _))
  have hcv : W1.cell? ⟨w.heap.size + 1 + 1, 0, none⟩ = some (.int .i64 uu) := by rw [hal1.cell]; exact hbq
  have HB1 : Hid (Below w.heap.size w W1) := hide ((HSB.out ns).trans (hal1.below _))
  have HR1 := hide (hr1 W1 (HCV.out W1 (HR.out.below HB1.out (Nat.le_refl _))))
  obtain ⟨a1, c1, hv1⟩ : ∃ a c, v1 = .slice a l.length c := by obtain ⟨a, c, h, -⟩ := HR1.out; exact ⟨a, c, h⟩
  subst hv1
  obtain ⟨z0, y0⟩ := HA1.out.cell 0
  obtain ⟨z1, y1⟩ := HA1.out.cell 1
  obtain ⟨z2, y2⟩ := HA1.out.cell 2
  clear HGN HBX HSB HSA hW0 hbx hbq hal1 hr1 hlt1 hle1 HB00 hck hcut' HB0
  cases GL with
  | none =>
    have HE : Hid (RM = (0, 0, 0, 3)) := hide HMG.out
    clear hn1 hs1 hxy HMG HLN
    go_wp2
    refine bodyPost_ret (v := .tuple #[.agg #[.int .i64 0, .int .i64 0, .int .u32 0], .int .i64 3]) (by simp [results, Try.results50, go_sem, z0, z1, z2]) rfl ?_
    rw [HE.out]
    exact ⟨rfl, belowTriE HB1.out _ (Nat.le_refl _) _ _ _⟩
  | some gp =>
    have := hs1 gp rfl
    subst this
    obtain ⟨g1, g2, g3⟩ := hxy (HLN.out _ _ rfl)
    have HM2 : Hid (RM = if ns.getD 0 0 ≠ 3 then (0, 0, 0, 6) else if l.length ≠ 4 then (0, 0, 0, 3) else (ns.getD 1 0, ns.getD 2 0, Lib.leNat l, 0)) := hide HMG.out
    clear hn1 hs1 hxy HMG HLN
    generalize ns.getD 0 0 = n0 at *
    generalize ns.getD 1 0 = n1 at *
    generalize ns.getD 2 0 = n2 at *
    subst g1 g2 g3
    by_cases hv3 : n0 = 3
    case neg =>
      have HE : Hid (RM = (0, 0, 0, 6)) := hide (by rw [HM2.out, if_pos hv3])
      have hv3' : ((n0 : Int) != 3) = true := by rw [bne_iff_ne]; omega
      clear hv3 HM2
      go_wp2
      refine bodyPost_ret (v := .tuple #[.agg #[.int .i64 0, .int .i64 0, .int .u32 0], .int .i64 6]) (by simp [results, Try.results50, go_sem, z0, z1, z2]) rfl ?_
      rw [HE.out]
      exact ⟨rfl, belowTriE HB1.out _ (Nat.le_refl _) _ _ _⟩
    have hv3' : ((n0 : Int) != 3) = false := by rw [bne_eq_false_iff_eq]; omega
    by_cases hl4 : l.length = 4
    case neg =>
      have HE : Hid (RM = (0, 0, 0, 3)) := hide (by rw [HM2.out, if_neg (by omega), if_pos hl4])
      have hl4' : ((l.length : Int) != 4) = true := by rw [bne_iff_ne]; omega
      clear hv3 HM2 hl4
      go_wp2
      refine bodyPost_ret (v := .tuple #[.agg #[.int .i64 0, .int .i64 0, .int .u32 0], .int .i64 3]) (by simp [results, Try.results50, go_sem, z0, z1, z2]) rfl ?_
      rw [HE.out]
      exact ⟨rfl, belowTriE HB1.out _ (Nat.le_refl _) _ _ _⟩
    have hl4' : ((l.length : Int) != 4) = false := by rw [bne_eq_false_iff_eq]; omega
    have HE : Hid (RM = (n1, n2, Lib.leNat l, 0)) := hide (by rw [HM2.out, if_neg (by omega), if_neg (by omega)])
    have HFQ := hide (HFX.out _ l W1 HR1.out)
    rw [List.take_of_length_le (by omega)] at HFQ
    have hlt : Lib.leNat l < 4294967296 := by
      have := leNat_lt l
      rw [hl4] at this
      exact this
    have HL4 : Hid (l.length = 4) := hide hl4
    generalize Lib.leNat l = cc at *
    clear hv3 HM2 hl4
    obtain ⟨e0, f0⟩ := HE1.out.cell 0
    obtain ⟨e1, f1⟩ := HE1.out.cell 1
    obtain ⟨e2, f2⟩ := HE1.out.cell 2
    have hne1 : ¬ (w.heap.size = w.heap.size + 1) := by omega
    have hne2 : ¬ (w.heap.size + 1 = w.heap.size) := by omega
    have hcv32 : IntKind.u32.wrap (cc : Int) = (cc : Int) := by
      rw [IntKind.wrap_u32]
      omega
    have hci : (0 : Int) ≤ (cc : Int) := by omega
    have hcj : (cc : Int) < 4294967296 := by omega
    obtain ⟨CC, hCC⟩ : ∃ CC : Int, CC = (cc : Int) := ⟨_, rfl⟩
    obtain ⟨N1, hN1⟩ : ∃ N1 : Int, N1 = (n1 : Int) := ⟨_, rfl⟩
    obtain ⟨N2, hN2⟩ : ∃ N2 : Int, N2 = (n2 : Int) := ⟨_, rfl⟩
    rw [← hCC] at HFQ hcv32 hci hcj
    rw [← hN1] at e0
    rw [← hN2] at e1
    have HCC := hide hCC
    have HN1 := hide hN1
    have HN2 := hide hN2
    clear hCC hN1 hN2 hlt
    clear HL4
    go_wp2_with fail
    refine HFQ.out.mono ?_
    rintro e W2 ⟨rfl, hw2⟩
    rw [hw2]
    clear hw2 W2
    go_wp2
    refine bodyPost_ret (v := .tuple #[.agg #[.int .i64 N1, .int .i64 N2, .int .u32 CC], .int .i64 0]) (by simp [results, Try.results50, go_sem, z0, z1, z2]) rfl ?_
    rw [HE.out]
    exact ⟨by rw [HCC.out, HN1.out, HN2.out], belowTriE (HB1.out.setCell (Nat.le_succ _) _) _ (Nat.le_refl _) _ _ _⟩

end Go.Proofs.Ytanmjihiceibbaa

/- Contracts of snapshot: manifest.join; of bytes.Equal, slices.EqualFunc over bytes. -/
namespace Go.Proofs.Ytanmjihiceibbaa
open Go.RowKit

set_option maxRecDepth 100000 in
theorem bytesEq_any (va vb : Value) (a b : List UInt8) (w : World) (ha : Rd w va a) (hb : Rd w vb b) :
    Calls Try.prog 85 #[va, vb] w fun e w' => e = .returned (.bool (decide (a = b))) ∧ w' = w := by
  have ca := ha.str
  have cb := hb.str
  have hse : ((bs a).toList == (bs b).toList) = decide (a = b) := by
    rw [bs_eq]
    by_cases h : a = b
    · rw [h, decide_eq_true rfl]; exact beq_self_eq_true b
    · rw [decide_eq_false h, beq_eq_false_iff_ne]; exact h
  generalize decide (a = b) = D at *
  clear ha hb
  go_enter Try.func85, Try.ntmps85
  go_wp2
  go_ret
  exact ⟨rfl, rfl⟩

theorem take_eq_next {A B : List (List UInt8)} {k : Nat} (hA : k < A.length) (hB : k < B.length) (h : A.take k = B.take k) (h2 : A.getD k [] = B.getD k []) : A.take (k + 1) = B.take (k + 1) := by
  rw [List.take_add_one, List.take_add_one, h]
  congr 1
  simp only [List.getD, List.getElem?_eq_getElem hA, List.getElem?_eq_getElem hB, Option.getD_some] at h2 ⊢
  rw [h2]

set_option maxRecDepth 100000 in
set_option maxHeartbeats 2000000 in
theorem equalFuncB_any (va vb : Value) (A B : List (List UInt8)) (w : World) (ha : RdL w va A) (hb : RdL w vb B) :
    Calls Try.prog 84 #[va, vb, .func (.func 85) #[] #[]] w fun e w' => e = .returned (.bool (decide (A = B))) ∧ w' = w := by
  obtain ⟨aa, ac, rfl, hla, hcm, -, haa⟩ := ha
  obtain ⟨ba, bc, rfl, -, -, -, hab⟩ := hb
  have HAA := hide haa
  have HAB := hide hab
  have HEQ := hide (fun x y a b h1 h2 => bytesEq_any x y a b w h1 h2)
  obtain ⟨D, hD⟩ : ∃ D, D = decide (A = B) := ⟨_, rfl⟩
  rw [← hD]
  have HD1 : Hid (A = B → D = true) := fun h => by rw [hD]; exact decide_eq_true h
  have HD0 : Hid (¬ A = B → D = false) := fun h => by rw [hD]; exact decide_eq_false h
  have hml : (A.length : Int) ≤ 9223372036854775807 := by unfold maxLen at hcm; omega
  clear hD haa hab hcm hla
  by_cases hlen : A.length = B.length
  case neg =>
    have hne : ((A.length : Int) != (B.length : Int)) = true := by rw [bne_iff_ne]; omega
    have HE := hide (HD0.out (fun h => hlen (by rw [h])))
    clear hlen
    go_enter Try.func84, Try.ntmps84
    go_wp2
    go_ret
    rw [HE.out]
    exact ⟨rfl, rfl⟩
  have hne : ((A.length : Int) != (B.length : Int)) = false := by rw [bne_eq_false_iff_eq]; omega
  have HLEN := hide hlen
  have HDT : Hid (A.take A.length = B.take A.length → D = true) := hide (fun h => HD1.out (by
    rw [List.take_length, HLEN.out, List.take_length] at h
    exact h))
  have HDF : Hid (∀ k, k < A.length → A.getD k [] ≠ B.getD k [] → D = false) := hide (fun k hk h => HD0.out (fun hs => h (by rw [hs])))
  clear hlen HD1 HD0
  go_enter Try.func84, Try.ntmps84
  go_wp2
  go_loopw [17] (fun vi wr => ∃ k : Nat, vi = .int .i64 (k : Int) ∧ k ≤ A.length ∧ Hid (A.take k = B.take k) ∧ wr = w) (fun vi _ => A.length - (intOf vi).toNat)
  case atStart => exact ⟨0, rfl, Nat.zero_le _, rfl, rfl⟩
  case round =>
    obtain ⟨k, rfl, hk, hP, rfl⟩ := hrel
    by_cases hlt : k < A.length
    case neg =>
      obtain rfl : k = A.length := by omega
      have HT := hide (HDT.out hP.out)
      go_wp2
      go_ret
      rw [HT.out]
      exact ⟨rfl, rfl⟩
    have hlb : k < B.length := by have := HLEN.out; omega
    rcases HAA.out with h0 | ⟨c, off, rfl, hc⟩
    · rw [h0] at hlt; simp at hlt
    rcases HAB.out with h0 | ⟨c', off', rfl, hc'⟩
    · rw [h0] at hlb; simp at hlb
    obtain ⟨x, hx, hxr⟩ := hc k hlt
    obtain ⟨y, hy, hyr⟩ := hc' k hlb
    have hki : (k : Int) < (A.length : Int) := by omega
    have hkj : (k : Int) < (B.length : Int) := by omega
    have HNE := hide (HDF.out k hlt)
    have HPN : Hid (A.getD k [] = B.getD k [] → A.take (k + 1) = B.take (k + 1)) := hide (fun h => take_eq_next hlt hlb hP.out h)
    have HQ := hide (HEQ.out x y _ _ hxr hyr)
    obtain ⟨xa, xc, hxv⟩ : ∃ a c, x = .slice a (A.getD k []).length c := by obtain ⟨a, c, h, -⟩ := hxr; exact ⟨a, c, h⟩
    obtain ⟨ya, yc, hyv⟩ : ∃ a c, y = .slice a (B.getD k []).length c := by obtain ⟨a, c, h, -⟩ := hyr; exact ⟨a, c, h⟩
    subst hxv hyv
    clear hc hc' hxr hyr HDT HDF HAA HAB HEQ
    generalize A.getD k [] = X at *
    generalize B.getD k [] = Y at *
    by_cases hxy : X = Y
    · have HP1 := hide (HPN.out hxy)
      have HD : Hid (decide (X = Y) = true) := decide_eq_true hxy
      rw [HD.out] at HQ
      clear HNE HPN hxy
      go_wp2_with fail
      refine HQ.out.mono ?_
      rintro e W1 ⟨rfl, hw1⟩
      rw [hw1]
      clear hw1 W1
      go_wp2
      go_roundw
      case rel => exact ⟨k + 1, by go_num, by omega, HP1, trivial⟩
      case measure => simp [intOf]; omega
    · have HDD := hide (HNE.out hxy)
      have HD : Hid (decide (X = Y) = false) := decide_eq_false hxy
      rw [HD.out] at HQ
      clear HNE HPN hxy
      go_wp2_with fail
      refine HQ.out.mono ?_
      rintro e W1 ⟨rfl, hw1⟩
      rw [hw1]
      clear hw1 W1
      go_wp2
      go_ret
      rw [HDD.out]
      exact ⟨rfl, rfl⟩

set_option maxRecDepth 100000 in
set_option maxHeartbeats 1000000 in
theorem concatM_any (v : Value) (L : List (List UInt8)) (w : World) (hr : RdL w v L) (hlim : L.flatten.length ≤ 1000000) (hn : L.length ≤ 100000) :
    Calls Try.prog 54 #[v] w fun e w' => ∃ v', e = .returned v' ∧ Own w' w.heap.size v' L.flatten ∧ Below w.heap.size w w' := by
  have HG := hide (fun n W h => grow_nil n W h)
  have HRL := hide hr
  have HLE : Hid (∀ k, flen L k ≤ 1000000) := fun k => Nat.le_trans (flen_le L k) hlim
  have HFN := hide (flen_next L)
  have HFS := hide (flat_next L)
  have HFA := hide (flat_all L)
  have HFL := hide (flat_len L)
  obtain ⟨F, hF⟩ : ∃ F, F = L.flatten := ⟨_, rfl⟩
  rw [← hF]
  rw [← hF] at HFA
  obtain ⟨ao, cap, rfl, -, -, -, hao⟩ := hr
  have HAO := hide hao
  clear hao hF hlim
  go_enter Try.func54, Try.ntmps54
  go_wp2
  go_loopw [3, 11] (fun vs vi wr => ∃ (k : Nat), vs = .int .i64 (flen L k : Int) ∧ vi = .int .i64 (k : Int) ∧ k ≤ L.length ∧ wr = w) (fun _ vi _ => L.length - (intOf vi).toNat)
  case atStart => exact ⟨0, rfl, rfl, Nat.zero_le _, rfl⟩
  case round =>
    obtain ⟨k, rfl, rfl, hk, hwr⟩ := hrel
    have hwr2 := hwr.symm
    subst hwr2
    clear hwr
    by_cases hlt : k < L.length
    · rcases HAO.out with h0 | ⟨c, off, rfl, hc⟩
      · rw [h0] at hlt; simp at hlt
      obtain ⟨x, hx, hrx⟩ := hc k hlt
      have h1 := HLE.out (k + 1)
      have h2 := HFN.out k hlt
      obtain ⟨ax, cx, rfl, -⟩ := hrx
      have h3 : ¬ ((flen L k : Int) + ((L.getD k []).length : Int) < 0) := by omega
      have h4 : (flen L k : Int) + ((L.getD k []).length : Int) ≤ 1000000 := by omega
      have H2 := hide h2
      clear hc h1 h2
      generalize flen L k = A at *
      generalize (L.getD k []).length = D at *
      go_wp2
      go_roundw
      case rel => exact ⟨k + 1, by rw [H2.out], by go_num, by omega, trivial⟩
      case measure => simp [intOf]; omega
    · have HGG := hide (HG.out (flen L k) w (HLE.out k))
      generalize flen L k = A at *
      go_wp2_with fail
      refine HGG.out.mono ?_
      rintro e W1 ⟨v1, rfl, ho1, hb1⟩
      have HO1 := hide ho1
      have HB1 := hide hb1
      clear ho1 hb1 hk hlt
      go_wp2
      go_loopw [6, 27] (fun vo vi w2 => ∃ (j : Nat), vi = .int .i64 (j : Int) ∧ j ≤ L.length ∧ Hid (Own w2 w.heap.size vo (flat L j)) ∧ Hid (Below w.heap.size w w2)) (fun _ vi _ => L.length - (intOf vi).toNat)
      case atStart => exact ⟨0, rfl, Nat.zero_le _, HO1, HB1⟩
      case round =>
        clear HO1 HB1
        obtain ⟨j, rfl, hj, HO2, HB2⟩ := hrel
        by_cases hjl : j < L.length
        · rcases HAO.out with h0 | ⟨c, off, rfl, hc⟩
          · rw [h0] at hjl; simp at hjl
          obtain ⟨x, hx0, hrx⟩ := hc j hjl
          have hx := (HB2.out.cell (World.block_lt_of_cell? _ _ hx0)).trans hx0
          have HRX := hide (hrx.below HB2.out (Nat.le_refl _))
          obtain ⟨ax, cx, rfl, -⟩ := hrx
          have HLL : Hid ((flat L j).length + (L.getD j []).length ≤ 70368744177664) := hide (by
            have h1 := HLE.out (j + 1)
            have h2 := HFN.out j hjl
            rw [HFL.out]
            omega)
          have HSZ := hide HB2.out.size
          have HN := hide (HFS.out j hjl)
          clear hc hx0
          generalize L.getD j [] = D at *
          generalize flat L j = P at *
          go_wp2_with (at_builtin; refine wpList_append_rd _ rfl _ _ rfl w.heap.size _ P rfl HO2.out _ D rfl HRX.out HLL.out HSZ.out ?_)
          intro v3 W3 ho3 hb3
          rw [← HN.out] at ho3
          have HO3 := hide ho3
          have HB3 := hide (HB2.out.trans hb3)
          clear ho3 hb3
          go_wp2
          go_roundw
          case rel => exact ⟨j + 1, by go_num, by omega, HO3, HB3⟩
          case measure => simp [intOf]; omega
        · have HE := hide (HFA.out j (by omega))
          rw [HE.out] at HO2
          go_wp2
          go_ret
          exact ⟨_, rfl, HO2.out, HB2.out⟩

/-- The error of join. -/
def joinE (P : List (List UInt8)) (n c : Nat) : Int := if P.flatten.length ≠ n then 16 else if ¬ CutOk P then 3 else if crcMore 0 P.flatten ≠ c then 4 else 0

/-- What join answers. -/
def Joined (w : World) (F : List UInt8) (er : Int) (e : Ending) (w' : World) : Prop :=
  ∃ v', e = .returned (.tuple #[v', .int .i64 er]) ∧ Rd w' v' (if er = 0 then F else []) ∧ Below w.heap.size w w'

theorem ViewL.rdl {w' : World} {v v' : Value} {l : List UInt8} {xs : List Value} {L : List (List UInt8)} {B : Nat} (h : ViewL v l xs L) (ho : w'.ownsRow B 30 1 v' L.length xs) (hr : Rd w' v l) : RdL w' v' L := by
  rcases ho.2 with ⟨hv, hn⟩ | ⟨g, cap, cur, hv, hb, hg, hnc, hcm, hcs, htake⟩
  · have e : L = [] := List.eq_nil_of_length_eq_zero hn
    subst e
    rw [hv]
    exact RdL.nil _
  · refine ⟨some ⟨g, 0, none⟩, cap, hv, hnc, hcm, (fun e => by cases e), .inr ⟨g, 0, rfl, fun j hj => ?_⟩⟩
    obtain ⟨x, h1, -, h3⟩ := h.2 j hj
    refine ⟨x, ?_, h3 w' hr⟩
    have := World.ownsRow.cells ho (g := g) (by rw [hv]; rfl) j x h1
    rw [Addr.add_lit] at this
    exact this

set_option maxRecDepth 100000 in
set_option maxHeartbeats 4000000 in
theorem join_any (i : Int) (n c : Nat) (vp : Value) (P : List (List UInt8)) (w : World) (hp : RdL w vp P) (hlim : P.flatten.length ≤ 100000) (hlim2 : P.length ≤ 100000) :
    Calls Try.prog 51 #[.agg #[.int .i64 i, .int .i64 (n : Int), .int .u32 (c : Int)], vp] w fun e w' => Joined w P.flatten (joinE P n c) e w' := by
  have HB0 : Hid (Below w.heap.size w (w.alloc (.cells #[.int .i64 i, .int .i64 (n : Int), .int .u32 (c : Int)] 54))) := hide ((Below.refl _ _).alloc (Nat.le_refl _) _)
  have HX0 : Hid (Bq (w.alloc (.cells #[.int .i64 i, .int .i64 (n : Int), .int .u32 (c : Int)] 54)) w.heap.size #[.int .i64 i, .int .i64 (n : Int), .int .u32 (c : Int)]) := hide (heap_alloc_new w _)
  have HCC := hide (fun W (h : Below w.heap.size w W) => concatM_any vp P W (hp.below h (Nat.le_refl _)) (by omega) hlim2)
  have HCH := hide (fun v1 W h => chunks_any v1 P.flatten W h hlim)
  have HEF := hide (fun vb W h1 h2 => equalFuncB_any vp vb P (pieces P.flatten) W h1 h2)
  have HSM := hide (fun v1 W h => sum_any v1 P.flatten W h)
  have HP := hide hp
  have hdc : decide (P = pieces P.flatten) = decide (CutOk P) := decide_eq_decide.2 (cutOk_iff P).symm
  rw [hdc] at HEF
  have HJ : Hid (joinE P n c = if P.flatten.length ≠ n then 16 else if ¬ CutOk P then 3 else if crcMore 0 P.flatten ≠ c then 4 else 0) := hide rfl
  obtain ⟨pa, pc, hpv⟩ : ∃ a c, vp = .slice a P.length c := by obtain ⟨a, c, h, -⟩ := hp; exact ⟨a, c, h⟩
  subst hpv
  obtain ⟨er, her⟩ : ∃ er, er = joinE P n c := ⟨_, rfl⟩
  rw [← her] at HJ ⊢
  obtain ⟨co, hco⟩ : ∃ co, co = decide (CutOk P) := ⟨_, rfl⟩
  rw [← hco] at HEF
  have HCO := hide hco
  clear her hp hdc hco
  obtain ⟨FL, hFL⟩ : ∃ FL, FL = P.flatten := ⟨_, rfl⟩
  rw [← hFL] at HCC HCH HEF HSM HJ hlim ⊢
  have HPC : Hid (pieces FL = pieces FL) := hide rfl
  clear hFL
  generalize pieces FL = PF at *
  generalize crcMore 0 FL = cr at *
  obtain ⟨ni, hni⟩ : ∃ ni : Int, ni = (n : Int) := ⟨_, rfl⟩
  obtain ⟨ci, hci⟩ : ∃ ci : Int, ci = (c : Int) := ⟨_, rfl⟩
  obtain ⟨cri, hcri⟩ : ∃ cri : Int, cri = (cr : Int) := ⟨_, rfl⟩
  rw [← hni, ← hci] at HB0 HX0 ⊢
  rw [← hcri] at HSM
  have HNI := hide hni
  have HCI := hide hci
  have HCR := hide hcri
  clear hni hci hcri
  go_enter Try.func51, Try.ntmps51
  go_wp2_with fail
  refine (HCC.out _ HB0.out).mono ?_
  rintro e W1 ⟨v1, rfl, ho1, hb1⟩
  have HB1 := hide (HB0.out.trans (hb1.mono HB0.out.size))
  have HX1 := hide (HX0.out.below hb1 (Nat.le_refl _))
  have HR1 := hide ho1.rd
  obtain ⟨a1, c1, hv1⟩ : ∃ a c, v1 = .slice a FL.length c := by obtain ⟨a, c, h, -⟩ := ho1.rd; exact ⟨a, c, h⟩
  subst hv1
  obtain ⟨p1, -⟩ := HX1.out.cell 1
  clear ho1 hb1 HCC HB0 HX0
  by_cases hl : FL.length = n
  case neg =>
    have HE : Hid (er = 16) := hide (by rw [HJ.out, if_pos hl])
    have hl' : ((FL.length : Int) != ni) = true := by rw [bne_iff_ne, HNI.out]; omega
    clear hl HJ
    go_wp2
    go_ret2
    rw [HE.out]
    exact ⟨_, rfl, Rd.nil _, HB1.out⟩
  have hl' : ((FL.length : Int) != ni) = false := by rw [bne_eq_false_iff_eq, HNI.out]; omega
  have HL := hide hl
  clear hl
  go_wp2_with fail
  refine (HCH.out _ _ HR1.out).mono ?_
  rintro e W2 ⟨v2, xs, rfl, ho2, hv2, hb2⟩
  have HB2 := hide (HB1.out.trans (hb2.mono HB1.out.size))
  have HX2 := hide (HX1.out.below hb2 (Nat.le_refl _))
  have HR2 := hide (HR1.out.below hb2 (Nat.le_refl _))
  have HL2 := hide (hv2.rdl ho2 HR2.out)
  obtain ⟨a2, c2, hvv⟩ : ∃ a c, v2 = .slice a PF.length c := by obtain ⟨a, c, h, -⟩ := HL2.out; exact ⟨a, c, h⟩
  subst hvv
  clear ho2 hb2 hv2 p1 HCH HX1 HR1 HB1
  go_wp2_with fail
  refine (HEF.out _ _ (HP.out.below HB2.out (Nat.le_refl _)) HL2.out).mono ?_
  rintro e W3 ⟨rfl, hw3⟩
  rw [hw3]
  clear hw3 W3 HEF
  cases co with
  | false =>
    have HE : Hid (er = 3) := hide (by rw [HJ.out, if_neg (fun h => h HL.out), if_pos (of_decide_eq_false HCO.out.symm)])
    clear HJ
    go_wp2
    go_ret2
    rw [HE.out]
    exact ⟨_, rfl, Rd.nil _, HB2.out⟩
  | true =>
    have HE : Hid (er = if cr ≠ c then 4 else 0) := hide (by rw [HJ.out, if_neg (fun h => h HL.out), if_neg (fun h => h (of_decide_eq_true HCO.out.symm))])
    have HSQ := hide (HSM.out _ W2.drew (HR2.out.below ((Below.refl _ _).drew) (Nat.le_refl _)))
    obtain ⟨q2, -⟩ := HX2.out.cell 2
    go_upto_region 6 with fail
    go_cut [21] (fun x wc => x = .bool (decide (cri ≠ ci)) ∧ Hid (Rd wc (.slice a1 FL.length c1) FL) ∧ Hid (Below w.heap.size w wc))
    case first =>
      by_cases hcc : cri = ci
      · have h1 : (cri != ci) = false := by rw [bne_eq_false_iff_eq]; exact hcc
        have h2 : decide (cri ≠ ci) = false := decide_eq_false (fun h => h hcc)
        have H2 := hide h2
        clear hcc h2
        go_region_held (fun w' => w'.cell? ⟨w.heap.size, 2, none⟩ = some (.int .u32 ci)) (go_keep)
          (first
            | (go_at_call 57; refine HSQ.out.mono ?_; rintro e W3 ⟨rfl, hb3⟩; have hst : Below W2.heap.size W2 W3 := ((Below.refl _ _).drew).trans hb3; have HB3 := hide (HB2.out.trans (hst.mono HB2.out.size)); have HR3 := hide (HR2.out.below hst (Nat.le_refl _)); obtain ⟨r2, -⟩ := (HX2.out.below hst (Nat.le_refl _)).cell 2; clear hb3 hst))
        all_goals
          go_wp2_with fail
          go_meet
          exact ⟨by rw [H2.out], HR3, HB3⟩
      · have h1 : (cri != ci) = true := by rw [bne_iff_ne]; exact hcc
        have h2 : decide (cri ≠ ci) = true := decide_eq_true hcc
        have H2 := hide h2
        clear hcc h2
        go_region_held (fun w' => w'.cell? ⟨w.heap.size, 2, none⟩ = some (.int .u32 ci)) (go_keep)
          (first
            | (go_at_call 57; refine HSQ.out.mono ?_; rintro e W3 ⟨rfl, hb3⟩; have hst : Below W2.heap.size W2 W3 := ((Below.refl _ _).drew).trans hb3; have HB3 := hide (HB2.out.trans (hst.mono HB2.out.size)); have HR3 := hide (HR2.out.below hst (Nat.le_refl _)); obtain ⟨r2, -⟩ := (HX2.out.below hst (Nat.le_refl _)).cell 2; clear hb3 hst))
        all_goals
          go_wp2_with fail
          go_meet
          exact ⟨by rw [H2.out], HR3, HB3⟩
    case rest =>
      obtain ⟨WC, rfl⟩ : ∃ W, W = wc := ⟨_, rfl⟩
      obtain ⟨rfl, HRC, HBC⟩ := hcut
      by_cases hcc : cr = c
      · have HF : Hid (er = 0) := hide (by rw [HE.out, if_neg (by omega)])
        have h2 : decide (cri ≠ ci) = false := decide_eq_false (by have := HCI.out; have := HCR.out; omega)
        rw [h2]
        clear h2 hcc HJ HE
        go_wp2
        go_ret2
        rw [HF.out]
        exact ⟨_, rfl, HRC.out, HBC.out⟩
      · have HF : Hid (er = 4) := hide (by rw [HE.out, if_pos hcc])
        have h2 : decide (cri ≠ ci) = true := decide_eq_true (by have := HCI.out; have := HCR.out; omega)
        rw [h2]
        clear h2 hcc HJ HE
        go_wp2
        go_ret2
        rw [HF.out]
        exact ⟨_, rfl, Rd.nil _, HBC.out⟩

end Go.Proofs.Ytanmjihiceibbaa

/- Contract of frame.Decode. -/
namespace Go.Proofs.Ytanmjihiceibbaa
open Go.RowKit

theorem Rd.drewN {w : World} {v : Value} {l : List UInt8} (h : Rd w v l) (n : Nat) : Rd (w.drewN n) v l := h.below (below_drewN (Below.refl _ w) n) (Nat.le_refl _)

/-- The parts of a frame, cut by three indices: what each reads as, in the world and in those behind it. -/
theorem cuts3 (w : World) (v : Value) (l : List UInt8) (hr : Rd w v l) (K N : Int) (k n : Nat) (hk : K = k) (hn : N = n) (h : k + n + 4 ≤ l.length) :
    ∃ v1 v2 v3, (∀ q, (Instr.sliceAt 30 v none (some (.int .i64 (K + N))) (some (.int .i64 (K + N)))).run Try.prog (w.drewN q) = .ok v1 (w.drewN q)) ∧
      (∀ q, (Instr.sliceAt 30 v (some (.int .i64 K)) (some (.int .i64 (K + N))) (some (.int .i64 (K + N)))).run Try.prog (w.drewN q) = .ok v2 (w.drewN q)) ∧
      (∀ q, (Instr.sliceAt 30 v (some (.int .i64 (K + N))) (some (.int .i64 (K + N + 4))) (some (.int .i64 (K + N + 4)))).run Try.prog (w.drewN q) = .ok v3 (w.drewN q)) ∧
      Rd w v1 (l.take (k + n)) ∧ Rd w v2 ((l.drop k).take n) ∧ Rd w v3 ((l.drop (k + n)).take 4) := by
  have h0 := hr
  obtain ⟨ao, cap, rfl, hlc, _⟩ := hr
  have e1 : (K + N).toNat = k + n := by omega
  have e2 : K.toNat = k := by omega
  have e3 : (K + N + 4).toNat = k + n + 4 := by omega
  refine ⟨sliced ao 0 (k + n) (k + n) 1, sliced ao k (k + n) (k + n) 1, sliced ao (k + n) (k + n + 4) (k + n + 4) 1, ?_, ?_, ?_, ?_, ?_, ?_⟩
  · intro q
    rw [run_sliceAt_slice _ 30 _ _ _ _ under_bytes, run_slice_hm _ 30 ao l.length cap under_bytes .i64 .i64 (K + N) (K + N) (by omega) (by omega) (by omega), elem_bytes, size_u8, e1]
    rfl
  · intro q
    rw [run_sliceAt_slice _ 30 _ _ _ _ under_bytes, run_slice_lhm _ 30 ao l.length cap under_bytes .i64 .i64 .i64 K (K + N) (K + N) (by omega) (by omega) (by omega) (by omega), elem_bytes, size_u8, e1, e2]
    rfl
  · intro q
    rw [run_sliceAt_slice _ 30 _ _ _ _ under_bytes, run_slice_lhm _ 30 ao l.length cap under_bytes .i64 .i64 .i64 (K + N) (K + N + 4) (K + N + 4) (by omega) (by omega) (by omega) (by omega), elem_bytes, size_u8, e1, e3]
    rfl
  · have := h0.mid 0 (k + n) (k + n) (by omega) (by omega) (by omega) (by omega)
    simpa using this
  · have := h0.mid k (k + n) (k + n) (by omega) (by omega) (by omega) (by omega)
    rwa [show k + n - k = n by omega] at this
  · have := h0.mid (k + n) (k + n + 4) (k + n + 4) (by omega) (by omega) (by omega) (by omega)
    rwa [show k + n + 4 - (k + n) = 4 by omega] at this

/-- A cut within a region that draws its order and only reads. -/
theorem wpQuiet_cut {ops : Array Oper} {C : World → Prop} {Q : Act → Prop} {rest : List Oper} {o : Oper} {a : Act} {w : World} (hg : o.guard = none) (x : Operand) (lo hi mx : Option Operand)
    (ho : o.op = .slice 30 x lo hi mx) (hC : ∀ w', C w' → ∃ q, w' = w.drewN q) (v : Value)
    (hrun : ∀ q, (Instr.sliceAt 30 (a.eval x) (lo.map a.eval) (hi.map a.eval) (mx.map a.eval)).run Try.prog (w.drewN q) = .ok v (w.drewN q))
    (h : wpQuiet Try.prog ops C Q rest (a.put o.dst v)) : wpQuiet Try.prog ops C Q (o :: rest) a :=
  wpQuiet_step fun _ hK => by
    rw [if_pos (by simp [Region.wanted, hg])]
    refine ⟨v, fun w' hw' => ?_, hK _ h⟩
    obtain ⟨q, rfl⟩ := hC w' hw'
    unfold Oper.quietAt execOp
    simp only [ho, hrun, Sem.run_bind, Sem.run_pure, Result.andThen_ok, Oper.quietUpon, and_self]

set_option maxRecDepth 100000 in
set_option maxHeartbeats 1000000 in
theorem decode_any (v : Value) (l : List UInt8) (w : World) (hr : Rd w v l) :
    Calls Try.prog 111 #[v] w fun e w' => Decoded w l e w' := by
  have HR := hide hr
  have HO := hide (cut_any v l w hr)
  have HG := hide (get_any v l w hr)
  obtain ⟨ao, cap, rfl, hlc, hcm, hn0, hao⟩ := hr
  clear hn0 hao
  have hml : (l.length : Int) ≤ 9223372036854775807 := by unfold maxLen at hcm; omega
  have HLC := hide hlc
  have HCM := hide hcm
  clear hlc hcm
  by_cases c1 : isOpen l
  · have HE := hide (decF_1 c1)
    have HD : Hid (decide (isOpen l) = true) := decide_eq_true c1
    rw [HD.out] at HO
    clear c1 HG
    go_enter Try.func111, Try.ntmps111
    go_wp2_with fail
    refine HO.out.mono ?_
    rintro e w1 ⟨rfl, rfl⟩
    clear HO
    go_wp2
    go_ret3
    exact Decoded.refused HE.out
  have HD : Hid (decide (isOpen l) = false) := decide_eq_false c1
  rw [HD.out] at HO
  have C1 := hide c1
  clear c1
  have hg1 := dec62_cases l
  obtain ⟨n, hn⟩ : ∃ n, n = (dec62 l).1 := ⟨_, rfl⟩
  obtain ⟨k, hk⟩ : ∃ k, k = (dec62 l).2 := ⟨_, rfl⟩
  rw [← hn, ← hk] at hg1 HG
  have HN := hide hn
  have HK := hide hk
  have hk9 := dec62_nine l
  have hbd : (n : Int) < 4611686018427387904 ∧ (k : Int) ≤ l.length ∧ (k : Int) ≤ 9 := by
    rw [← hk] at hk9
    rcases hg1 with h | h
    · have h1 : n = 0 := by rw [hn, h]
      have h2 : k = 0 := by rw [hk, h]
      omega
    · omega
  clear hk9
  obtain ⟨N, hNn⟩ : ∃ N : Int, N = (n : Int) := ⟨_, rfl⟩
  obtain ⟨K, hKk⟩ : ∃ K : Int, K = (k : Int) := ⟨_, rfl⟩
  rw [← hNn, ← hKk] at hbd HG
  obtain ⟨hn62, hkl, hk9⟩ := hbd
  have hN0 : 0 ≤ N := by omega
  have hK0 : 0 ≤ K := by omega
  have HNN := hide hNn
  have HKK := hide hKk
  clear hNn hKk
  clear hg1 hn hk
  by_cases c2 : K = 0
  · have HE := hide (decF_2 C1.out (by rw [← HK.out]; have := HKK.out; omega))
    subst c2
    go_enter Try.func111, Try.ntmps111
    go_wp2_with fail
    refine HO.out.mono ?_
    rintro e w1 ⟨rfl, rfl⟩
    clear HO
    go_wp2_with fail
    refine HG.out.mono ?_
    rintro e w1 ⟨rfl, rfl⟩
    clear HG
    go_wp2
    go_ret3
    exact Decoded.refused HE.out
  have ez : (K == 0) = false := beq_eq_false_iff_ne.2 c2
  have hk1 : 1 ≤ K := by omega
  have C2 := hide (show (dec62 l).2 ≠ 0 by rw [← HK.out]; have := HKK.out; omega)
  clear c2
  by_cases c3 : 1048576 < N
  · have HE := hide (decF_3 C1.out C2.out (by rw [← HN.out]; have := HNN.out; omega))
    go_enter Try.func111, Try.ntmps111
    go_wp2_with fail
    refine HO.out.mono ?_
    rintro e w1 ⟨rfl, rfl⟩
    clear HO
    go_wp2_with fail
    refine HG.out.mono ?_
    rintro e w1 ⟨rfl, rfl⟩
    clear HG
    go_wp2
    go_ret3
    exact Decoded.refused HE.out
  have C3 := hide (show ¬ 1048576 < (dec62 l).1 by rw [← HN.out]; have := HNN.out; omega)
  by_cases c4 : (l.length : Int) < K + N + 4
  · have HE := hide (decF_4 C1.out C2.out C3.out (by rw [← HN.out, ← HK.out]; have := HNN.out; have := HKK.out; omega))
    go_enter Try.func111, Try.ntmps111
    go_wp2_with fail
    refine HO.out.mono ?_
    rintro e w1 ⟨rfl, rfl⟩
    clear HO
    go_wp2_with fail
    refine HG.out.mono ?_
    rintro e w1 ⟨rfl, rfl⟩
    clear HG
    go_wp2
    go_ret3
    exact Decoded.refused HE.out
  have C4 := hide (show ¬ l.length < (dec62 l).2 + 4 + (dec62 l).1 by rw [← HN.out, ← HK.out]; have := HNN.out; have := HKK.out; omega)
  have HS : Hid (∀ v w, Rd w v (l.take (k + n)) → Calls Try.prog 57 #[v] w fun e w' => e = .returned (.int .u32 (crcMore 0 (l.take (k + n)) : Nat)) ∧ Below w.heap.size w w') := fun v w h => sum_any v _ w h
  have HF : Hid (∀ v w, Rd w v ((l.drop (k + n)).take 4) → Calls Try.prog 83 #[v] w fun e w' => e = .returned (.int .u64 (Lib.leNat ((l.drop (k + n)).take 4) : Nat)) ∧ w' = w) := by
    intro v w h
    have := fixed_any v _ w h
    rwa [List.take_of_length_le (by simp; omega)] at this
  have HE5 : Hid (Lib.leNat ((l.drop (k + n)).take 4) ≠ crcMore 0 (l.take (k + n)) → decF l = ([], 0, 4)) := fun h => by
    rw [HN.out, HK.out] at h
    exact decF_5 C1.out C2.out C3.out C4.out h
  have HE6 : Hid (Lib.leNat ((l.drop (k + n)).take 4) = crcMore 0 (l.take (k + n)) → decF l = ((l.drop k).take n, k + 4 + n, 0)) := fun h => by
    rw [HN.out, HK.out] at h ⊢
    exact decF_6 C1.out C2.out C3.out C4.out h
  have hs := crc_lt (l.take (k + n))
  have hq : Lib.leNat ((l.drop (k + n)).take 4) < 4294967296 := by
    have h1 := leNat_lt256 ((l.drop (k + n)).take 4)
    have e4 : ((l.drop (k + n)).take 4).length = 4 := by have := HNN.out; have := HKK.out; simp; omega
    rw [e4] at h1
    exact h1
  generalize crcMore 0 (l.take (k + n)) = s at *
  generalize Lib.leNat ((l.drop (k + n)).take 4) = q at *
  obtain ⟨S, hS⟩ : ∃ S : Int, S = (s : Int) := ⟨_, rfl⟩
  obtain ⟨T, hT⟩ : ∃ T : Int, T = (q : Int) := ⟨_, rfl⟩
  rw [← hS] at HS
  rw [← hT] at HF
  have hS0 : 0 ≤ S := by omega
  have hS1 : S < 4294967296 := by omega
  have HSS := hide hS
  have HTT := hide hT
  obtain ⟨v1, v2, v3, hc1, hc2, hc3, hr1, hr2, hr3⟩ := cuts3 w _ l HR.out K N k n HKK.out HNN.out (by have := HNN.out; have := HKK.out; omega)
  have HV1 := hide hr1
  have HV2 := hide hr2
  have HV3 := hide hr3
  have HC1 := hide hc1
  have HC2 := hide hc2
  have HC3 := hide hc3
  clear hr1 hr2 hr3 hc1 hc2 hc3
  clear hS hT hs hq
  go_enter Try.func111, Try.ntmps111
  go_wp2_with fail
  refine HO.out.mono ?_
  rintro e w1 ⟨rfl, rfl⟩
  clear HO
  go_wp2_with fail
  refine HG.out.mono ?_
  rintro e w1 ⟨rfl, rfl⟩
  clear HG
  go_wp2
  refine wp_region_quiet_lit (by kernel_rfl) (by kernel_rfl) ?_
  repeat (go_big_quiet_step (fail))
  refine wpQuiet_cut rfl _ _ _ _ rfl (fun _ h => h) v1 HC1.out ?_
  simp only [Act.put, List.setIfInBounds_toArray, List.set_cons_succ, List.set_cons_zero]
  repeat (go_big_quiet_step (fail))
  refine wpQuiet_cut rfl _ _ _ _ rfl (fun _ h => h) v2 HC2.out ?_
  simp only [Act.put, List.setIfInBounds_toArray, List.set_cons_succ, List.set_cons_zero]
  repeat (go_big_quiet_step (fail))
  refine wpQuiet_cut rfl _ _ _ _ rfl (fun _ h => h) v3 HC3.out ?_
  simp only [Act.put, List.setIfInBounds_toArray, List.set_cons_succ, List.set_cons_zero]
  repeat (go_big_quiet_step (fail))
  refine wpQuiet_nil ?_
  rintro _ ⟨nq, rfl⟩
  have HBQ := hide (below_drewN (Below.refl w1.heap.size w1) nq)
  have HQ1 := hide (HV1.out.drewN nq)
  have HQ2 := hide (HV2.out.drewN nq)
  have HQ3 := hide (HV3.out.drewN nq)
  clear HV1 HV2 HV3 HC1 HC2 HC3
  go_wp2_with fail
  refine (HF.out _ _ HQ3.out).mono ?_
  rintro e w2 ⟨rfl, rfl⟩
  clear HF HQ3
  go_wp2_with fail
  refine (HS.out _ _ HQ1.out).mono ?_
  rintro e w2 ⟨rfl, hb2⟩
  have HB2 := hide (HBQ.out.trans hb2)
  have HQ4 := hide (HQ2.out.below hb2 (Nat.le_refl _))
  clear HS HQ1 HQ2 hb2 HBQ
  by_cases c5 : T = S
  · have hne : (T != S) = false := by rw [bne_eq_false_iff_eq]; exact c5
    have HE := hide (HE6.out (by have := HSS.out; have := HTT.out; omega))
    clear c5 HE5 HE6
    have HLL := hide (show ((l.drop k).take n).length ≤ 1048576 by have := HNN.out; simp; omega)
    have HC := hide (clone_any _ _ w2 HQ4.out (by have := HLL.out; omega))
    generalize (l.drop k).take n = x at *
    go_wp2_with fail
    refine HC.out.mono ?_
    rintro e w4 ⟨v4, rfl, ho4, hb4⟩
    have hs2 := HB2.out.size
    have HO4 := hide (ho4.mono hs2)
    have HB4 := hide (HB2.out.trans (hb4.mono hs2))
    clear ho4 hb4 HC
    go_wp2
    go_ret3
    refine ⟨v4, ?_, by rw [HE.out]; exact HO4.out, HB4.out⟩
    rw [HE.out]
    exact ret_tup3 (by show K + N + 4 = ((k + 4 + n : Nat) : Int); have := HNN.out; have := HKK.out; omega) rfl
  · have hne : (T != S) = true := by rw [bne_iff_ne]; exact c5
    have HE := hide (HE5.out (by have := HSS.out; have := HTT.out; omega))
    clear c5 HE5 HE6
    go_wp2
    go_ret3
    refine ⟨.slice none 0 0, ?_, ?_, HB2.out⟩
    · rw [HE.out]; rfl
    · rw [HE.out]; exact Own.nil _ _

end Go.Proofs.Ytanmjihiceibbaa

/- Contracts of frame.begin, Whole, All. -/
namespace Go.Proofs.Ytanmjihiceibbaa
open Go.RowKit

set_option maxRecDepth 100000 in
set_option maxHeartbeats 1000000 in
theorem begin_any (v : Value) (l : List UInt8) (w : World) (hr : Rd w v l) (hlim : l.length ≤ 1000000) :
    Calls Try.prog 81 #[v] w fun e w' => ∃ v', e = .returned (.tuple #[v', .int .i64 ((wholeF l).2.1 : Nat), .int .i64 ((wholeF l).2.2 : Nat)]) ∧ OwnL w' w.heap.size v' (wholeF l).1 ∧ Below w.heap.size w w' := by
  have HR := hide hr
  obtain ⟨ao, cap, rfl, hlc, hcm, hn0, hao⟩ := hr
  clear hn0 hao hlc hcm
  have HD := hide (fun v k w h => decode_any v (l.drop k) w h)
  go_enter Try.func81, Try.ntmps81
  go_wp2
  go_loopw [5, 6] (fun vl at' wr => ∃ (A : Nat) (L : List (List UInt8)), at' = .int .i64 (A : Int) ∧ Hid (Upto l A L) ∧ Hid (OwnL wr w.heap.size vl L) ∧ Hid (Below w.heap.size w wr)) (fun _ at' _ => l.length - (intOf at').toNat)
  case atStart => exact ⟨0, [], rfl, Upto.start l, OwnL.nil _ _, Below.refl _ _⟩
  case round =>
    obtain ⟨A, L, rfl, hu, ho, hb⟩ := hrel
    have hAl := hu.out.2.2
    by_cases hlt : A < l.length
    · have HC : Hid (∃ v', (Instr.sliceAt 30 (.slice ao l.length cap) (some (.int .i64 (A : Int))) none none).run Try.prog wr = .ok v' wr ∧ Rd wr v' (l.drop A)) := by
        have := run_cut_l wr _ l (HR.out.below hb.out (Nat.le_refl _)) .i64 (A : Int) (by omega) (by omega)
        rwa [Int.toNat_natCast] at this
      have hsw := hb.out.size
      go_wp2_with (refine wpList_cut _ rfl _ _ _ _ rfl _ HC.out ?_)
      intro v1 hr1
      have HV1 := hide hr1
      clear hr1 HC
      go_wp2_with fail
      refine (HD.out _ A _ HV1.out).mono ?_
      rintro e w2 ⟨v2, rfl, ho2, hb2⟩
      have HO2 := hide (ho2.mono hsw)
      have HL2 := hide (ho.out.below hb2 (Nat.le_refl _))
      have HB2 := hide (hb.out.trans (hb2.mono hsw))
      have hs2 := HB2.out.size
      clear ho2 hb2 HV1
      have H5 := hide (fun h => decF_five (l := l.drop A) h)
      have hle := decF_le (l.drop A)
      rw [List.length_drop] at hle
      by_cases he : (decF (l.drop A)).2.2 = 0
      · have HU := hide (hu.out.step hlt he)
        have h5 := H5.out he
        have hLl := hu.out.2.1
        rw [he]
        generalize (decF (l.drop A)).2.1 = m at *
        generalize (decF (l.drop A)).1 = x at *
        clear he H5
        obtain ⟨a2, c2, rfl, _⟩ := HO2.out.rd
        go_wp2_with (at_builtin; refine wpList_append_snoc _ rfl _ _ rfl w.heap.size _ L rfl HL2.out _ x rfl HO2.out (by omega) hs2 ?_)
        intro v3 w3 ho3 hb3
        have HO3 := hide ho3
        have HB3 := hide (HB2.out.trans hb3)
        clear ho3 hb3
        go_wp2
        go_roundw
        case rel => exact ⟨A + m, L ++ [x], by go_num, HU, HO3, HB3⟩
        case measure => simp [intOf]; omega
      · have HE := hide (hu.out.stop hlt he)
        clear H5
        generalize (decF (l.drop A)).2.2 = c at *
        have hne : ((c : Int) != 0) = true := by rw [bne_iff_ne]; omega
        clear he
        go_wp2
        go_ret3
        refine ⟨_, ?_, by rw [HE.out]; exact HL2.out, HB2.out⟩
        rw [HE.out]
        rfl
    · have HE := hide (hu.out.whole hlt)
      go_wp2
      go_ret3
      refine ⟨_, ?_, by rw [HE.out]; exact ho.out, hb.out⟩
      rw [HE.out]
      rfl

set_option maxRecDepth 100000 in
set_option maxHeartbeats 1000000 in
theorem all_any (v : Value) (l : List UInt8) (w : World) (hr : Rd w v l) (hlim : l.length ≤ 1000000) :
    Calls Try.prog 49 #[v] w fun e w' => ∃ v', e = .returned (.tuple #[v', .int .i64 ((allF l).2 : Nat)]) ∧ RdL w' v' (allF l).1 ∧ Below w.heap.size w w' := by
  have HW := hide (begin_any v l w hr hlim)
  clear hr
  go_enter Try.func49, Try.ntmps49
  go_wp2_with fail
  refine HW.out.mono ?_
  rintro e w2 ⟨v2, rfl, ho2, hb2⟩
  have HO2 := hide ho2
  have HB2 := hide hb2
  clear ho2 hb2 HW
  by_cases he : (wholeF l).2.2 = 0
  · have HE : Hid (allF l = ((wholeF l).1, 0)) := if_pos he
    rw [he]
    clear he
    generalize (wholeF l).2.1 = m at *
    go_wp2
    go_ret2
    refine ⟨_, ?_, by rw [HE.out]; exact HO2.out.rd, HB2.out⟩
    rw [HE.out]
    rfl
  · have HE : Hid (allF l = ([], (wholeF l).2.2)) := if_neg he
    generalize (wholeF l).2.1 = m at *
    generalize (wholeF l).2.2 = c at *
    have hne : ((c : Int) != 0) = true := by rw [bne_iff_ne]; omega
    clear he
    go_wp2
    go_ret2
    refine ⟨_, ?_, by rw [HE.out]; exact RdL.nil _, HB2.out⟩
    rw [HE.out]
    rfl

end Go.Proofs.Ytanmjihiceibbaa

/- Contract of snapshot: Decode. -/
namespace Go.Proofs.Ytanmjihiceibbaa
open Go.RowKit

theorem size_rows : ∀ w, (sizeOf 30).run Try.prog w = .ok 1 w := Try.sizeOf30

/-- A list of slices without its first. -/
theorem cut_rows (b off : Nat) (L : List (List UInt8)) (cap : Nat) (hlc : L.length ≤ cap) (h1 : 1 ≤ L.length) :
    ∃ xa xc, (∀ W, (Instr.sliceAt 51 (.slice (some ⟨b, off, none⟩) L.length cap) (some (.int .i64 1)) none none).run Try.prog W = .ok (.slice xa (L.length - 1) xc) W) ∧ ∀ W, RdL W (.slice (some ⟨b, off, none⟩) L.length cap) L → RdL W (.slice xa (L.length - 1) xc) (L.drop 1) := by
  by_cases hc : cap = 1
  · refine ⟨some ⟨b, off, none⟩, cap - 1, fun W => ?_, fun W h => ?_⟩
    · have hL : L.length = 1 := by omega
      simp [go_sem, hL, hc]
    · have hL : L.drop 1 = [] := List.drop_eq_nil_of_le (by omega)
      obtain ⟨ao', cap', hv, k1, k2, k3, k4⟩ := h
      simp only [Value.slice.injEq] at hv
      obtain ⟨rfl, -, rfl⟩ := hv
      exact ⟨_, _, by rw [List.length_drop], by rw [List.length_drop]; omega, by omega, (fun e => by cases e), .inl hL⟩
  · refine ⟨some ⟨b, off + 1, none⟩, cap - 1, fun W => ?_, fun W h => ?_⟩
    · have h2 : (1 : Int) ≤ (L.length : Int) := by omega
      simp [go_sem, hc, h2]
    · obtain ⟨ao', cap', hv, k1, k2, k3, k4⟩ := h
      simp only [Value.slice.injEq] at hv
      obtain ⟨rfl, -, rfl⟩ := hv
      refine ⟨_, _, by rw [List.length_drop], by rw [List.length_drop]; omega, by omega, (fun e => by cases e), ?_⟩
      rcases k4 with k4 | ⟨b', off', k5, k6⟩
      · rw [k4] at h1
        simp at h1
      · injection k5 with k5
        injection k5 with k5 k7 _
        subst k5 k7
        refine .inr ⟨b, off + 1, rfl, fun j hj => ?_⟩
        rw [List.length_drop] at hj
        obtain ⟨x, hx, hxr⟩ := k6 (j + 1) (by omega)
        refine ⟨x, by rw [show off + 1 + j = off + (j + 1) by omega]; exact hx, ?_⟩
        have e : (L.drop 1).getD j [] = L.getD (j + 1) [] := by simp [List.getD]
        rw [e]
        exact hxr

theorem partsD_nil : partsD [] = (zeroN, 16) := rfl

theorem partsD_cons (d : List UInt8) (P : List (List UInt8)) : partsD (d :: P) = if (maniL d).2.2.2 ≠ 0 then (zeroN, (maniL d).2.2.2) else if joinE P (maniL d).2.1 (maniL d).2.2.1 ≠ 0 then (zeroN, joinE P (maniL d).2.1 (maniL d).2.2.1)
    else if (readN P.flatten).2 ≠ 0 then (zeroN, (readN P.flatten).2) else if MayN ⟨((maniL d).1 : Nat), (readN P.flatten).1.st, (readN P.flatten).1.tab⟩ then (⟨((maniL d).1 : Nat), (readN P.flatten).1.st, (readN P.flatten).1.tab⟩, 0) else (zeroN, 1) := by
  unfold joinE
  rw [partsD]
  by_cases h0 : (maniL d).2.2.2 ≠ 0
  · rw [if_pos h0, if_pos h0]
  rw [if_neg h0, if_neg h0]
  by_cases h1 : P.flatten.length ≠ (maniL d).2.1
  · rw [if_pos h1, if_pos h1, if_pos (by decide)]
  rw [if_neg h1, if_neg h1]
  by_cases h2 : ¬ CutOk P
  · rw [if_pos h2, if_pos h2, if_pos (by decide)]
  rw [if_neg h2, if_neg h2]
  by_cases h3 : crcMore 0 P.flatten ≠ (maniL d).2.2.1
  · rw [if_pos h3, if_pos h3, if_pos (by decide)]
  rw [if_neg h3, if_neg h3, if_neg (show ¬ ((0 : Int) ≠ 0) by decide)]

theorem framesOf_flat : ∀ L : List (List UInt8), L.flatten.length + L.length ≤ (framesOf L).length
  | [] => by simp [framesOf]
  | x :: t => by
    have ih := framesOf_flat t
    have := frameOf_length x
    rw [framesOf_cons, List.length_append, List.flatten_cons, List.length_append, List.length_cons]
    omega

set_option maxRecDepth 100000 in
set_option maxHeartbeats 4000000 in
theorem decodeN_any (v : Value) (b : List UInt8) (w : World) (hr : Rd w v b) (hlim : b.length ≤ 100000) :
    Calls Try.prog 19 #[v] w fun e w' => DecodedN w (decN b) e w' := by
  obtain ⟨W0, hW0⟩ : ∃ W0, W0 = w.alloc (.cells #[.int .i64 0, .int .i64 0, .slice none 0 0, .bool false, .int .i64 0, .slice none 0 0] 27) := ⟨_, rfl⟩
  have HB0 : Hid (Below w.heap.size w W0) := hide (by rw [hW0]; exact (Below.refl _ _).alloc (Nat.le_refl _) _)
  have HX0 : Hid (Bn W0 w.heap.size #[.int .i64 0, .int .i64 0, .slice none 0 0, .bool false, .int .i64 0, .slice none 0 0]) := hide (by rw [hW0]; exact heap_alloc_new w _)
  have HAL := hide (all_any v b W0 (hr.below HB0.out (Nat.le_refl _)) (by omega))
  obtain ⟨va, vc, hv⟩ : ∃ a c, v = .slice a b.length c := by obtain ⟨a, c, h, -⟩ := hr; exact ⟨a, c, h⟩
  subst hv
  obtain ⟨DN, hDN⟩ : ∃ DN, DN = decN b := ⟨_, rfl⟩
  rw [← hDN]
  by_cases hw : (wholeF b).2.2 = 0
  case neg =>
    have HD : Hid (DN = (zeroN, (((wholeF b).2.2 : Nat) : Int))) := hide (by rw [hDN]; unfold decN; rw [if_pos hw])
    have ha : allF b = ([], (wholeF b).2.2) := by unfold allF; rw [if_neg hw]
    rw [ha] at HAL
    dsimp only at HAL
    generalize (wholeF b).2.2 = er at *
    have her : ((er : Int) != 0) = true := by rw [bne_iff_ne]; omega
    obtain ⟨E, hE⟩ : ∃ E : Int, E = (er : Int) := ⟨_, rfl⟩
    rw [← hE] at HAL HD her
    clear ha hDN hw hE hr
    go_enter Try.func19, Try.ntmps19
    go_wp2_with fail
    rw [← hW0]
    refine HAL.out.mono ?_
    rintro e W1 ⟨v1, rfl, hr1, hb1⟩
    have HX1 := hide (HX0.out.below hb1 (Nat.le_refl _))
    have HB1 := hide (HB0.out.trans (hb1.mono HB0.out.size))
    obtain ⟨z0, y0⟩ := HX1.out.cell 0
    obtain ⟨z1, y1⟩ := HX1.out.cell 1
    obtain ⟨z2, y2⟩ := HX1.out.cell 2
    obtain ⟨z3, y3⟩ := HX1.out.cell 3
    obtain ⟨z4, y4⟩ := HX1.out.cell 4
    obtain ⟨z5, y5⟩ := HX1.out.cell 5
    clear hb1 hr1
    go_wp2
    refine bodyPost_ret (v := .tuple #[.agg #[.int .i64 0, .int .i64 0, .slice none 0 0, .bool false, .int .i64 0, .slice none 0 0], .int .i64 E]) (by simp [results, Try.results19, go_sem, z0, z1, z2, z3, z4, z5]) rfl ?_
    rw [HD.out]
    exact DecodedN.zero _ (belowSixE HB1.out _ (Nat.le_refl _) _ _ _ _ _ _)
  have HD : Hid (DN = partsD (wholeF b).1) := hide (by rw [hDN]; unfold decN; rw [if_neg (fun h => h hw)])
  have ha : allF b = ((wholeF b).1, 0) := by unfold allF; rw [if_pos hw]
  have hfl := framesOf_flat (wholeF b).1
  rw [(wholeF_all b.length b (Nat.le_refl _) hw).1] at hfl
  rw [ha] at HAL
  dsimp only at HAL
  generalize (wholeF b).1 = LS at *
  clear ha hDN hw hr
  cases LS with
  | nil =>
    rw [partsD_nil] at HD
    go_enter Try.func19, Try.ntmps19
    go_wp2_with fail
    rw [← hW0]
    refine HAL.out.mono ?_
    rintro e W1 ⟨v1, rfl, hr1, hb1⟩
    obtain ⟨a1, c1, hv1⟩ : ∃ a c, v1 = .slice a 0 c := by obtain ⟨a, c, h, -⟩ := hr1; exact ⟨a, c, h⟩
    subst hv1
    have HX1 := hide (HX0.out.below hb1 (Nat.le_refl _))
    have HB1 := hide (HB0.out.trans (hb1.mono HB0.out.size))
    obtain ⟨z0, y0⟩ := HX1.out.cell 0
    obtain ⟨z1, y1⟩ := HX1.out.cell 1
    obtain ⟨z2, y2⟩ := HX1.out.cell 2
    obtain ⟨z3, y3⟩ := HX1.out.cell 3
    obtain ⟨z4, y4⟩ := HX1.out.cell 4
    obtain ⟨z5, y5⟩ := HX1.out.cell 5
    clear hb1 hr1
    go_wp2
    refine bodyPost_ret (v := .tuple #[.agg #[.int .i64 0, .int .i64 0, .slice none 0 0, .bool false, .int .i64 0, .slice none 0 0], .int .i64 16]) (by simp [results, Try.results19, go_sem, z0, z1, z2, z3, z4, z5]) rfl ?_
    rw [HD.out]
    exact DecodedN.zero _ (belowSixE HB1.out _ (Nat.le_refl _) _ _ _ _ _ _)
  | cons d P =>
    rw [partsD_cons] at HD
    have hPf : P.flatten.length ≤ 100000 := by rw [List.flatten_cons, List.length_append, List.length_cons] at hfl; omega
    have hPl : P.length ≤ 100000 := by rw [List.flatten_cons, List.length_append, List.length_cons] at hfl; omega
    have HLP : Hid ((d :: P).length = P.length + 1) := hide rfl
    have HRM := hide (fun v1 W h => readManifest_any v1 d W h)
    have HJN := hide (fun i n c vp W h => join_any i n c vp P W h hPf hPl)
    have HRW := hide (fun v1 W h => readWhole_any v1 P.flatten W h hPf)
    have HMI : Hid (I64 ((maniL d).1 : Nat)) := hide (by
      have : (maniL d).1 < 4611686018427387904 := by
        unfold maniL
        split
        · decide
        dsimp only
        split
        · decide
        split
        · decide
        split
        · decide
        rcases dec62_cases (d.drop (1 + (dec62 (d.drop 1)).2)) with h | h
        · rw [h]; exact (by decide : (0 : Nat) < 4611686018427387904)
        · exact h.1
      exact ⟨by omega, by omega⟩)
    unfold ReadM at HRM
    have HZR : Hid (∀ (W : World) (n : Int), Below w.heap.size w W → DN = (zeroN, n) → DecodedN w DN (.returned (.tuple #[.agg #[.int .i64 0, .int .i64 0, .slice none 0 0, .bool false, .int .i64 0, .slice none 0 0], .int .i64 n])) ((((((W.setCell ⟨w.heap.size, 0, none⟩ (.int .i64 0)).setCell ⟨w.heap.size, 1, none⟩ (.int .i64 0)).setCell ⟨w.heap.size, 2, none⟩ (.slice none 0 0)).setCell ⟨w.heap.size, 3, none⟩ (.bool false)).setCell ⟨w.heap.size, 4, none⟩ (.int .i64 0)).setCell ⟨w.heap.size, 5, none⟩ (.slice none 0 0))) := hide (fun W n h e => by
      rw [e]
      exact DecodedN.zero _ (belowSixE h _ (Nat.le_refl _) _ _ _ _ _ _))
    clear hfl
    generalize maniL d = RM at *
    obtain ⟨mi, mn, mc, me⟩ := RM
    dsimp only at HD HRM HMI
    have HCR := hide (fun rb ro c h => cut_rows rb ro (d :: P) c h (by simp))
    have hpi : (P.length : Int) ≤ 100000 := by omega
    go_enter Try.func19, Try.ntmps19
    go_wp2_with fail
    rw [← hW0]
    refine HAL.out.mono ?_
    rintro e W1 ⟨v1, rfl, hr1, hb1⟩
    have HX1 := hide (HX0.out.below hb1 (Nat.le_refl _))
    have HB1 := hide (HB0.out.trans (hb1.mono HB0.out.size))
    have HR1 := hide hr1
    obtain ⟨a1, c1, hv1, hlc1, -, -, hao1⟩ := hr1
    subst hv1
    rcases hao1 with h0 | ⟨rb, ro, rfl, hc⟩
    · cases h0
    obtain ⟨x0, hx0, hxr⟩ := hc 0 (by simp)
    have hx0' : W1.cell? ⟨rb, ro, none⟩ = some x0 := hx0
    have hxr' : Rd W1 x0 d := hxr
    have HXR := hide hxr'
    obtain ⟨xa, xc, hxv⟩ : ∃ a c, x0 = .slice a d.length c := by obtain ⟨a, c, h, -⟩ := hxr'; exact ⟨a, c, h⟩
    subst hxv
    obtain ⟨ra, rc, hcr, hcv⟩ := HCR.out rb ro c1 hlc1
    rw [HLP.out, Nat.add_sub_cancel] at hcr
    have HCV := hide (fun W h => hcv W h)
    rw [HLP.out, Nat.add_sub_cancel, List.drop_one, List.tail_cons] at HCV
    rw [HLP.out] at HR1 ⊢
    have he0 : ((P.length : Int) + 1 == 0) = false := beq_eq_false_iff_ne.2 (by omega)
    have hp0 : (0 : Int) < (P.length : Int) + 1 := by omega
    clear hb1 hc hx0 hxr hcv HAL hlc1 HCR hxr' hW0 HX0 HB0
    go_wp2_with fail
    refine (HRM.out _ _ HXR.out).mono ?_
    rintro e W2 ⟨rfl, hb2⟩
    obtain ⟨W3, hW3⟩ : ∃ W3, W3 = W2.alloc (.cells #[.int .i64 (mi : Int), .int .i64 (mn : Int), .int .u32 (mc : Int)] 54) := ⟨_, rfl⟩
    have HB23 : Hid (Below W2.heap.size W2 W3) := hide (by rw [hW3]; exact (Below.refl _ _).alloc (Nat.le_refl _) _)
    have HM3 : Hid (Bq W3 W2.heap.size #[.int .i64 (mi : Int), .int .i64 (mn : Int), .int .u32 (mc : Int)]) := hide (by rw [hW3]; exact heap_alloc_new W2 _)
    have HX3 := hide ((HX1.out.below hb2 (Nat.le_refl _)).below HB23.out (Nat.le_refl _))
    have HB3 := hide ((HB1.out.trans (hb2.mono HB1.out.size)).trans (HB23.out.mono (Nat.le_trans HB1.out.size hb2.size)))
    have HR3 := hide ((HR1.out.below hb2 (Nat.le_refl _)).below HB23.out (Nat.le_refl _))
    go_upto_region 7 with fail
    rw [← hW3]
    obtain ⟨QM, hQM⟩ : ∃ QM, QM = W2.heap.size := ⟨_, rfl⟩
    rw [← hQM] at HM3 ⊢
    clear hW3 hQM hb2 hx0' HX1 HB1 HR1 HRM HXR HB23
    by_cases hme : me = 0
    case neg =>
      have hme' : (me != 0) = true := by rw [bne_iff_ne]; exact hme
      have HF : Hid (DN = (zeroN, me)) := hide (by rw [HD.out, if_pos hme])
      obtain ⟨z0, y0⟩ := HX3.out.cell 0
      obtain ⟨z1, y1⟩ := HX3.out.cell 1
      obtain ⟨z2, y2⟩ := HX3.out.cell 2
      obtain ⟨z3, y3⟩ := HX3.out.cell 3
      obtain ⟨z4, y4⟩ := HX3.out.cell 4
      obtain ⟨z5, y5⟩ := HX3.out.cell 5
      clear hme
      go_wp2
      refine bodyPost_ret (v := .tuple #[.agg #[.int .i64 0, .int .i64 0, .slice none 0 0, .bool false, .int .i64 0, .slice none 0 0], .int .i64 me]) (by simp [results, Try.results19, go_sem, z0, z1, z2, z3, z4, z5]) rfl ?_
      exact HZR.out _ _ HB3.out HF.out
    have hme' : (me != 0) = false := by rw [bne_eq_false_iff_eq]; exact hme
    have HD2 : Hid (DN = if joinE P mn mc ≠ 0 then (zeroN, joinE P mn mc) else if (readN P.flatten).2 ≠ 0 then (zeroN, (readN P.flatten).2) else if MayN ⟨(mi : Nat), (readN P.flatten).1.st, (readN P.flatten).1.tab⟩ then (⟨(mi : Nat), (readN P.flatten).1.st, (readN P.flatten).1.tab⟩, 0) else (zeroN, 1)) := hide (by rw [HD.out, if_neg (fun h => h hme)])
    have HJQ := hide (fun W h => HJN.out (mi : Int) mn mc (.slice ra P.length rc) W h)
    obtain ⟨je, hje⟩ : ∃ je, je = joinE P mn mc := ⟨_, rfl⟩
    rw [← hje] at HD2 HJQ
    unfold Joined at HJQ
    clear hme hje HD HJN
    generalize P.flatten = FL at *
    obtain ⟨RL, hRL⟩ : ∃ RL, RL = if je = 0 then FL else [] := ⟨_, rfl⟩
    rw [← hRL] at HJQ
    have HRL := hide hRL
    clear hRL
    have HKA : Hid (∀ W, Below W3.heap.size W3 W → W.cell? ⟨QM, 0, none⟩ = some (.int .i64 (mi : Int)) ∧ W.cell? ⟨QM, 1, none⟩ = some (.int .i64 (mn : Int)) ∧ W.cell? ⟨QM, 2, none⟩ = some (.int .u32 (mc : Int))) := hide (fun W h => by
      have hx := HM3.out.below h (Nat.le_refl _)
      exact ⟨(hx.cell 0).1, (hx.cell 1).1, (hx.cell 2).1⟩)
    have HBD : Hid (Below W3.heap.size W3 W3.drew) := hide ((Below.refl _ _).drew)
    go_upto_region 9 with fail
    go_cut [5, 7] (fun x5 x7 wc => ∃ a c, x5 = .int .i64 je ∧ x7 = .slice a RL.length c ∧ Hid (Rd wc (.slice a RL.length c) RL) ∧ Hid (Below W3.heap.size W3 wc))
    case first =>
      go_region_held (fun w' => w'.cell? ⟨QM, 0, none⟩ = some (.int .i64 (mi : Int)) ∧ w'.cell? ⟨QM, 1, none⟩ = some (.int .i64 (mn : Int)) ∧ w'.cell? ⟨QM, 2, none⟩ = some (.int .u32 (mc : Int))) (first | (with_reducible exact HKA.out _ HBD.out) | (with_reducible exact HKA.out _ hbk4))
        (first
          | (go_at_call 51; refine (HJQ.out W3.drew (HCV.out _ (HR3.out.below HBD.out (Nat.le_refl _)))).mono ?_; rintro e W4 ⟨v4, rfl, hr4, hb4⟩; have hbk4 : Below W3.heap.size W3 W4 := HBD.out.trans hb4; have HR4 := hide hr4; obtain ⟨a4, c4, hv4⟩ : ∃ a c, v4 = .slice a RL.length c := (by obtain ⟨a, c, h, -⟩ := hr4; exact ⟨a, c, h⟩); subst hv4; clear hr4 hb4))
      all_goals
        go_wp2_with fail
        go_meet
        exact ⟨a4, c4, rfl, rfl, HR4, hide hbk4⟩
    case rest =>
      obtain ⟨WC, rfl⟩ : ∃ W, W = wc := ⟨_, rfl⟩
      obtain ⟨a4, c4, rfl, rfl, HR4, HB4⟩ := hcut
      have HX4 := hide (HX3.out.below HB4.out (Nat.le_refl _))
      have HM4 := hide (HM3.out.below HB4.out (Nat.le_refl _))
      have HBW4 := hide (HB3.out.trans (HB4.out.mono HB3.out.size))
      clear HX3 HM3 HB3 HR3 HB4 HKA HBD HJQ HCV hcr
      by_cases hj0 : je = 0
      case neg =>
        have hj' : (je != 0) = true := by rw [bne_iff_ne]; exact hj0
        have HF : Hid (DN = (zeroN, je)) := hide (by rw [HD2.out, if_pos hj0])
        obtain ⟨z0, y0⟩ := HX4.out.cell 0
        obtain ⟨z1, y1⟩ := HX4.out.cell 1
        obtain ⟨z2, y2⟩ := HX4.out.cell 2
        obtain ⟨z3, y3⟩ := HX4.out.cell 3
        obtain ⟨z4, y4⟩ := HX4.out.cell 4
        obtain ⟨z5, y5⟩ := HX4.out.cell 5
        clear hj0
        go_wp2
        refine bodyPost_ret (v := .tuple #[.agg #[.int .i64 0, .int .i64 0, .slice none 0 0, .bool false, .int .i64 0, .slice none 0 0], .int .i64 je]) (by simp [results, Try.results19, go_sem, z0, z1, z2, z3, z4, z5]) rfl ?_
        exact HZR.out _ _ HBW4.out HF.out
      have hj' : (je != 0) = false := by rw [bne_eq_false_iff_eq]; exact hj0
      have hRF : RL = FL := by rw [HRL.out, if_pos hj0]
      subst hRF
      have HD3 : Hid (DN = if (readN RL).2 ≠ 0 then (zeroN, (readN RL).2) else if MayN ⟨(mi : Nat), (readN RL).1.st, (readN RL).1.tab⟩ then (⟨(mi : Nat), (readN RL).1.st, (readN RL).1.tab⟩, 0) else (zeroN, 1)) := hide (by rw [HD2.out, if_neg (fun h => h hj0)])
      have HRQ := hide (HRW.out _ _ HR4.out)
      clear hj0 HD2 HRW
      go_wp2_with fail
      refine HRQ.out.mono ?_
      rintro e W5 ⟨vl, vt, S, t, ok, rfl, hl5, hk5, he5, ht5, hf5, hg5, hn5, hs5, hb5⟩
      obtain ⟨la, lc, hlv⟩ : ∃ a c, vl = .slice a S.L.length c := by obtain ⟨a, c, h, -⟩ := hl5; exact ⟨a, c, h⟩
      obtain ⟨ta, tc, htv⟩ := ht5.shape
      subst hlv htv
      obtain ⟨W6, hW6⟩ : ∃ W6, W6 = W5.alloc (.cells #[.int .i64 S.kind, .slice la S.L.length lc, .bool S.shut, .int .i64 S.eng] 24) := ⟨_, rfl⟩
      have HB56 : Hid (Below W5.heap.size W5 W6) := hide (by rw [hW6]; exact (Below.refl _ _).alloc (Nat.le_refl _) _)
      have HS6 : Hid (Bx W6 W5.heap.size #[.int .i64 S.kind, .slice la S.L.length lc, .bool S.shut, .int .i64 S.eng]) := hide (by rw [hW6]; exact heap_alloc_new W5 _)
      have HX6 := hide ((HX4.out.below hb5 (Nat.le_refl _)).below HB56.out (Nat.le_refl _))
      have HM6 := hide ((HM4.out.below hb5 (Nat.le_refl _)).below HB56.out (Nat.le_refl _))
      have HBW5 := hide (HBW4.out.trans (hb5.mono HBW4.out.size))
      have HBW6 := hide (HBW5.out.trans (HB56.out.mono HBW5.out.size))
      have HL6 := hide (hl5.below HB56.out (Nat.le_refl _))
      have HT6 := hide (ht5.below HB56.out (Nat.le_refl _))
      have HKE := hide (And.intro hk5 he5)
      have HFR : Hid ((∀ k, (Value.slice la S.L.length lc).ownBlock = some k → w.heap.size < k) ∧ (∀ k, (Value.slice ta t.length tc).ownBlock = some k → w.heap.size < k)) := hide ⟨fun k hk => by have h1 := hf5 k hk; have h2 := HX4.out.lt; omega, fun k hk => by have h1 := hg5 k hk; have h2 := HX4.out.lt; omega⟩
      have HN5 := hide hn5
      have HS5 := hide hs5
      go_upto_region 13 with fail
      rw [← hW6]
      obtain ⟨QS, hQS⟩ : ∃ QS, QS = W5.heap.size := ⟨_, rfl⟩
      rw [← hQS] at HS6 ⊢
      clear hW6 hQS hl5 hk5 he5 ht5 hf5 hg5 hn5 hs5 hb5 HX4 HM4 HBW4 HRQ HR4 HB56 HBW5
      cases ok with
      | false =>
        have h3 := HN5.out rfl
        have HF : Hid (DN = (zeroN, 3)) := hide (by rw [HD3.out, if_pos (by rw [h3]; decide), h3])
        obtain ⟨z0, y0⟩ := HX6.out.cell 0
        obtain ⟨z1, y1⟩ := HX6.out.cell 1
        obtain ⟨z2, y2⟩ := HX6.out.cell 2
        obtain ⟨z3, y3⟩ := HX6.out.cell 3
        obtain ⟨z4, y4⟩ := HX6.out.cell 4
        obtain ⟨z5, y5⟩ := HX6.out.cell 5
        clear h3
        go_wp2
        refine bodyPost_ret (v := .tuple #[.agg #[.int .i64 0, .int .i64 0, .slice none 0 0, .bool false, .int .i64 0, .slice none 0 0], .int .i64 3]) (by simp [results, Try.results19, go_sem, z0, z1, z2, z3, z4, z5]) rfl ?_
        exact HZR.out _ _ HBW6.out HF.out
      | true =>
        obtain ⟨er, hrn, her⟩ := HS5.out rfl
        rw [hrn] at HD3
        dsimp only at HD3
        have HF : Hid (DN = if MayN ⟨(mi : Nat), S, t⟩ then (⟨(mi : Nat), S, t⟩, 0) else (zeroN, 1)) := hide (by
          rcases her with h | ⟨h, h2⟩
          · rw [HD3.out, if_neg (fun h' => h' h)]
          · rw [HD3.out, if_pos (by rw [h]; decide), h, h2, if_neg (mayN_zero _ _)])
        have HMY := hide (fun W (h : Below W6.heap.size W6 W) => mayN_any (.agg #[.int .i64 ((mi : Nat) : Int), .int .i64 S.kind, .slice la S.L.length lc, .bool S.shut, .int .i64 S.eng, .slice ta t.length tc]) ⟨(mi : Nat), S, t⟩ W ⟨_, _, rfl, HL6.out.below h (Nat.le_refl _), HKE.out.1, HKE.out.2, HT6.out.below h (Nat.le_refl _), HMI.out⟩)
        obtain ⟨m0, -⟩ := HM6.out.cell 0
        obtain ⟨s0, -⟩ := HS6.out.cell 0
        obtain ⟨s1, -⟩ := HS6.out.cell 1
        obtain ⟨s2, -⟩ := HS6.out.cell 2
        obtain ⟨s3, -⟩ := HS6.out.cell 3
        have HA7 : Hid (∀ X, Below W6.heap.size W6 (W6.alloc X)) := hide (fun X => (Below.refl _ _).alloc (Nat.le_refl _) X)
        have HQ7 : Hid (∀ cs, Bn (W6.alloc (.cells cs 27)) W6.heap.size cs) := hide (fun cs => heap_alloc_new W6 _)
        obtain ⟨my, hmy⟩ : ∃ my, my = decide (MayN ⟨((mi : Nat) : Int), S, t⟩) := ⟨_, rfl⟩
        rw [← hmy] at HMY
        have HMM := hide hmy
        clear hrn her HS5 HN5 HD3 hmy
        go_wp2_with fail
        refine (HMY.out _ (HA7.out _)).mono ?_
        rintro e W8 ⟨rfl, hb8⟩
        have HX8 := hide ((HX6.out.below (HA7.out _) (Nat.le_refl _)).below hb8 (Nat.le_refl _))
        have HQ8 := hide ((HQ7.out _).below hb8 (Nat.le_refl _))
        have HB68 := hide ((HA7.out _).trans (hb8.mono (HA7.out _).size))
        have HBW8 := hide (HBW6.out.trans (HB68.out.mono HBW6.out.size))
        have HL8 := hide (HL6.out.below HB68.out (Nat.le_refl _))
        have HT8 := hide (HT6.out.below HB68.out (Nat.le_refl _))
        obtain ⟨z0, y0⟩ := HX8.out.cell 0
        obtain ⟨z1, y1⟩ := HX8.out.cell 1
        obtain ⟨z2, y2⟩ := HX8.out.cell 2
        obtain ⟨z3, y3⟩ := HX8.out.cell 3
        obtain ⟨z4, y4⟩ := HX8.out.cell 4
        obtain ⟨z5, y5⟩ := HX8.out.cell 5
        clear hb8 HMY m0 s0 s1 s2 s3 HX6 HA7 HQ7 HB68
        cases my with
        | false =>
          have HF2 : Hid (DN = (zeroN, 1)) := hide (by rw [HF.out, if_neg (of_decide_eq_false HMM.out.symm)])
          go_wp2
          refine bodyPost_ret (v := .tuple #[.agg #[.int .i64 0, .int .i64 0, .slice none 0 0, .bool false, .int .i64 0, .slice none 0 0], .int .i64 1]) (by simp [results, Try.results19, go_sem, z0, z1, z2, z3, z4, z5]) rfl ?_
          exact HZR.out _ _ HBW8.out HF2.out
        | true =>
          have HF2 : Hid (DN = (⟨((mi : Nat) : Int), S, t⟩, 0)) := hide (by rw [HF.out, if_pos (of_decide_eq_true HMM.out.symm)])
          obtain ⟨q0, -⟩ := HQ8.out.cell 0
          obtain ⟨q1, -⟩ := HQ8.out.cell 1
          obtain ⟨q2, -⟩ := HQ8.out.cell 2
          obtain ⟨q3, -⟩ := HQ8.out.cell 3
          obtain ⟨q4, -⟩ := HQ8.out.cell 4
          obtain ⟨q5, -⟩ := HQ8.out.cell 5
          go_wp2
          refine bodyPost_ret (v := .tuple #[.agg #[.int .i64 (mi : Int), .int .i64 S.kind, .slice la S.L.length lc, .bool S.shut, .int .i64 S.eng, .slice ta t.length tc], .int .i64 0]) (by simp [results, Try.results19, go_sem, z0, z1, z2, z3, z4, z5]) rfl ?_
          rw [HF2.out]
          have hbt := butSix W8 w.heap.size (.int .i64 (mi : Int)) (.int .i64 S.kind) (.slice la S.L.length lc) (.bool S.shut) (.int .i64 S.eng) (.slice ta t.length tc)
          exact ⟨_, _, rfl, HL8.out.but hbt (.inr fun k hk => by have := HFR.out.1 k hk; omega), HKE.out.1, HKE.out.2, HT8.out.but hbt (.inr fun k hk => by have := HFR.out.2 k hk; omega), HMI.out, (fun k hk => Nat.le_of_lt (HFR.out.1 k hk)), (fun k hk => Nat.le_of_lt (HFR.out.2 k hk)), belowSix HBW8.out _ (Nat.le_refl _) _ _ _ _ _ _⟩

end Go.Proofs.Ytanmjihiceibbaa

