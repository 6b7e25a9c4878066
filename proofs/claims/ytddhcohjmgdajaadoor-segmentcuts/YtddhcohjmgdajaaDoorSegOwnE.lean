/- Contract of segment: readHead. -/
import Derived.Test.YtddhcohjmgdajaaDoorSegOwnD
import Derived.Deep.RegionHeld2
namespace Go.Proofs.YtddhcohjmgdajaaDoor
open Go.RowKit

/-- A heading's box. -/
def Bhd (w : World) (b : Nat) (x y z : Int) : Prop := w.heap[b]? = some (.cells #[.int .i64 x, .int .i64 y, .int .i64 z] 42 (0, 0))

theorem Bhd.lt {w : World} {b : Nat} {x y z : Int} (h : Bhd w b x y z) : b < w.heap.size := (Array.getElem?_eq_some_iff.1 h).1

theorem Bhd.below {w w' : World} {b B : Nat} {x y z : Int} (h : Bhd w b x y z) (hb : Below B w w') (hB : b < B) : Bhd w' b x y z := (hb.block b hB).trans h

theorem Bhd.cell {w : World} {b : Nat} {x y z : Int} (h : Bhd w b x y z) : (w.cell? ⟨b, 0, none⟩ = some (.int .i64 x) ∧ w.cell? ⟨b, 1, none⟩ = some (.int .i64 y) ∧ w.cell? ⟨b, 2, none⟩ = some (.int .i64 z)) ∧ ∀ j, w.frozen? ⟨b, j, none⟩ = false :=
  ⟨⟨cell_of_row w b 0 _ _ _ h, cell_of_row w b 1 _ _ _ h, cell_of_row w b 2 _ _ _ h⟩, fun j => frozen_of_row w b j _ _ h⟩

theorem Bhd.set0 {w : World} {b : Nat} {x y z : Int} (h : Bhd w b x y z) (n : Int) : Bhd (w.setCell ⟨b, 0, none⟩ (.int .i64 n)) b n y z := by
  have h2 := heap_setCell_same w b 0 _ _ (.int .i64 n) h
  unfold Bhd
  simpa using h2

theorem Bhd.set1 {w : World} {b : Nat} {x y z : Int} (h : Bhd w b x y z) (n : Int) : Bhd (w.setCell ⟨b, 1, none⟩ (.int .i64 n)) b x n z := by
  have h2 := heap_setCell_same w b 1 _ _ (.int .i64 n) h
  unfold Bhd
  simpa using h2

theorem Bhd.set2 {w : World} {b : Nat} {x y z : Int} (h : Bhd w b x y z) (n : Int) : Bhd (w.setCell ⟨b, 2, none⟩ (.int .i64 n)) b x y n := by
  have h2 := heap_setCell_same w b 2 _ _ (.int .i64 n) h
  unfold Bhd
  simpa using h2

theorem Bhd.other {w : World} {b c : Nat} {x y z : Int} (h : Bhd w b x y z) (hc : b ≠ c) (j : Nat) (u : Value) : Bhd (w.setCell ⟨c, j, none⟩ u) b x y z := (Below.heap_setCell _ _ _ _ hc).trans h

/-- The error of a head's data. -/
def errH : Except Int (Nat × Nat × Nat) → Int
  | .error e => e
  | .ok _ => 0

/-- What readHead answers. -/
def HeadRead (w : World) (d : List UInt8) (e : Ending) (w' : World) : Prop :=
  ∃ x y z : Int, e = .returned (.tuple #[.agg #[.int .i64 x, .int .i64 y, .int .i64 z], .int .i64 (errH (readH d))]) ∧ (∀ v k f, readH d = .ok (v, k, f) → x = (v : Int) ∧ y = (k : Int) ∧ z = (f : Int)) ∧ Below w.heap.size w w'

theorem HeadRead.form {w w' : World} {d : List UInt8} (h : readH d = .error 3) (hb : Below w.heap.size w w') : HeadRead w d (.returned (.tuple #[.agg #[.int .i64 0, .int .i64 0, .int .i64 0], .int .i64 3])) w' :=
  ⟨0, 0, 0, by rw [h]; rfl, (fun v k f hh => by rw [h] at hh; cases hh), hb⟩

set_option maxRecDepth 100000 in
set_option maxHeartbeats 4000000 in
theorem readHeadG_any (v : Value) (d : List UInt8) (w : World) (hr : Rd w v d) :
    Calls Tryd.prog 37 #[v] w fun e w' => HeadRead w d e w' := by
  have HR := hide hr
  obtain ⟨ao, cap, rfl, hlc, hcm, -, hao⟩ := hr
  have hml : (d.length : Int) ≤ 9223372036854775807 := by unfold maxLen at hcm; omega
  have HB0 : Hid (∀ X, Below w.heap.size w (w.alloc X)) := fun X => (Below.refl _ _).alloc (Nat.le_refl _) X
  by_cases h0 : d.length = 0
  · have e : d = [] := List.eq_nil_of_length_eq_zero h0
    have HE : Hid (readH d = .error 3) := hide (readH_none (.inl e))
    have h0' : ((d.length : Int) == 0) = true := by rw [beq_iff_eq]; omega
    clear e h0 hao
    go_enter Tryd.func37, Tryd.ntmps37
    go_wp2
    refine bodyPost_ret (v := .tuple #[.agg #[.int .i64 0, .int .i64 0, .int .i64 0], .int .i64 3]) (by simp [results, Tryd.results37, go_sem]) rfl ?_
    exact HeadRead.form HE.out (HB0.out _)
  have h0' : ((d.length : Int) == 0) = false := beq_eq_false_iff_ne.2 (by omega)
  have hpos : (0 : Int) < (d.length : Int) := by omega
  have hne : d ≠ [] := fun e => by rw [e] at h0; simp at h0
  rcases hao with he | ⟨b, off, rfl, hc⟩
  · exact absurd he hne
  have hc0 := hc 0 (by omega)
  have hbl : b < w.heap.size := World.block_lt_of_cell? w ⟨b, off + 0, none⟩ hc0
  have hck : ∀ X, (w.alloc X).cell? ⟨b, off, none⟩ = some (.int .u8 ((d.getD 0 0).toNat : Nat)) := fun X => ((HB0.out X).cell (p := ⟨b, off, none⟩) hbl).trans hc0
  clear hc hc0 hlc hcm
  by_cases hm : d.getD 0 0 = 108
  case neg =>
    have HE : Hid (readH d = .error 3) := hide (readH_none (.inr hm))
    have hm' : ((((d.getD 0 0).toNat : Nat) : Int) != 108) = true := by
      rw [bne_iff_ne]
      intro h
      apply hm
      apply UInt8.toNat_inj.1
      have : (108 : UInt8).toNat = 108 := rfl
      omega
    clear hm hne h0
    generalize (((d.getD 0 0).toNat : Nat) : Int) = c0 at *
    go_enter Tryd.func37, Tryd.ntmps37
    go_wp2
    refine bodyPost_ret (v := .tuple #[.agg #[.int .i64 0, .int .i64 0, .int .i64 0], .int .i64 3]) (by simp [results, Tryd.results37, go_sem]) rfl ?_
    exact HeadRead.form HE.out (HB0.out _)
  have hm' : ((((d.getD 0 0).toNat : Nat) : Int) != 108) = false := by
    rw [hm]
    rfl
  have hgd : ¬ (d = [] ∨ d.getD 0 0 ≠ 108) := by rintro (h | h); exact hne h; exact h hm
  generalize (((d.getD 0 0).toNat : Nat) : Int) = c0 at *
  obtain ⟨a1, c1, hr1, hcut1⟩ := cut_at w _ d cap HR.out 1 (by omega)
  obtain ⟨⟨n0, k0⟩, hd1⟩ : ∃ x, dec62 (d.drop 1) = x := ⟨_, rfl⟩
  obtain ⟨⟨n1, k1⟩, hd2⟩ : ∃ x, dec62 (d.drop (1 + k0)) = x := ⟨_, rfl⟩
  obtain ⟨⟨n2, k2⟩, hd3⟩ : ∃ x, dec62 (d.drop (1 + k0 + k1)) = x := ⟨_, rfl⟩
  have hl1 := dec62_le (d.drop 1)
  have hl2 := dec62_le (d.drop (1 + k0))
  have hl3 := dec62_le (d.drop (1 + k0 + k1))
  have q2 := dec62_lt (d.drop (1 + k0 + k1))
  rw [hd1, List.length_drop] at hl1
  rw [hd2, List.length_drop] at hl2
  rw [hd3, List.length_drop] at hl3
  rw [hd3] at q2
  simp only at hl1 hl2 hl3 q2
  have HE := hide (readH_some hgd hd1 hd2 hd3)
  have k1' := hcut1 1 rfl
  -- the three rounds
  have HR1 := hide hr1
  have HF := hide (fun W => fault_any (n0 : Int) (n1 : Int) (n2 : Int) W)
  have X1 : Hid (∀ x y z Y, Bhd ((w.alloc (.cells #[.int .i64 x, .int .i64 y, .int .i64 z] 42)).alloc Y) w.heap.size x y z) := fun x y z Y => (Below.heap_alloc _ _ _ (by simp)).trans (heap_alloc_new w _)
  have X2 : Hid (∀ X x y z, Bhd ((w.alloc X).alloc (.cells #[.int .i64 x, .int .i64 y, .int .i64 z] 42)) (w.heap.size + 1) x y z) := fun X x y z => two_new w X _
  have HB2 : Hid (∀ X Y, Below w.heap.size w ((w.alloc X).alloc Y)) := fun X Y => Below.allocs (Below.allocs (Below.refl _ _) X) Y
  clear hr1 hcut1 hm hne h0
  obtain ⟨PP, hPP⟩ : ∃ PP : Nat → Nat, PP = fun q => if q = 0 then 1 else if q = 1 then 1 + k0 else if q = 2 then 1 + k0 + k1 else 1 + k0 + k1 + k2 := ⟨_, rfl⟩
  have p0 : PP 0 = 1 := by rw [hPP]; rfl
  have p1 : PP 1 = 1 + k0 := by rw [hPP]; rfl
  have p2 : PP 2 = 1 + k0 + k1 := by rw [hPP]; rfl
  have p3 : PP 3 = 1 + k0 + k1 + k2 := by rw [hPP]; rfl
  have HP : Hid (PP 0 = 1 ∧ PP 1 = 1 + k0 ∧ PP 2 = 1 + k0 + k1 ∧ PP 3 = 1 + k0 + k1 + k2) := hide ⟨p0, p1, p2, p3⟩
  obtain ⟨LL, hLL⟩ : ∃ LL : Nat → Nat, LL = fun q => (d.drop (PP q)).length := ⟨_, rfl⟩
  have HLL : Hid (∀ q, LL q = (d.drop (PP q)).length) := hide (fun q => by rw [hLL])
  have HR0 : Hid (Rd w (.slice a1 (LL 0) c1) (d.drop (PP 0))) := hide (by rw [HLL.out, p0]; exact HR1.out)
  have k1'' : ∀ W, (Instr.sliceAt 26 (.slice (some ⟨b, off, none⟩) d.length cap) (some (.int .i64 1)) none none).run Tryd.prog W = .ok (.slice a1 (LL 0) c1) W := by rw [HLL.out, p0]; exact k1'
  have HST : Hid (∀ (a : Option Addr) (c q k : Nat), PP (q + 1) = PP q + k → PP q + k ≤ d.length → Rd w (.slice a (LL q) c) (d.drop (PP q)) → ∃ a' c', Rd w (.slice a' (LL (q + 1)) c') (d.drop (PP (q + 1))) ∧ ∀ i : Int, i = (k : Int) → ∀ W, (Instr.sliceAt 26 (.slice a (LL q) c) (some (.int .i64 i)) none none).run Tryd.prog W = .ok (.slice a' (LL (q + 1)) c') W) := hide (fun a c q k hp hk hrp => by
    rw [HLL.out q] at hrp
    obtain ⟨a', c', h1, h2⟩ := cut_at w a (d.drop (PP q)) c hrp k (by rw [List.length_drop]; omega)
    rw [List.drop_drop, ← hp, ← HLL.out (q + 1)] at h1
    rw [List.drop_drop, ← hp, ← HLL.out q, ← HLL.out (q + 1)] at h2
    exact ⟨a', c', h1, h2⟩)
  have HG : Hid (∀ W a c q n k, Below w.heap.size w W → Rd w (.slice a (LL q) c) (d.drop (PP q)) → dec62 (d.drop (PP q)) = (n, k) → Calls Tryd.prog 56 #[.slice a (LL q) c] W fun e w' => e = .returned (.tuple #[.int .i64 (n : Int), .int .i64 (k : Int)]) ∧ w' = W) := hide (fun W a c q n k hb h hd => by
    have hx := get_any _ _ W (h.below hb (Nat.le_refl _))
    rw [hd] at hx
    exact hx)
  have HD : Hid (dec62 (d.drop 1) = (n0, k0) ∧ dec62 (d.drop (1 + k0)) = (n1, k1) ∧ dec62 (d.drop (1 + k0 + k1)) = (n2, k2)) := hide ⟨hd1, hd2, hd3⟩
  have HL : Hid (k0 ≤ d.length - 1 ∧ k1 ≤ d.length - (1 + k0) ∧ k2 ≤ d.length - (1 + k0 + k1)) := hide ⟨hl1, hl2, hl3⟩
  clear hPP hLL p0 p1 p2 p3 HR1 k1' hd1 hd2 hd3 hl1 hl2 hl3 hgd
  go_enter Tryd.func37, Tryd.ntmps37
  go_wp2
  go_loopw [5, 21] (fun vl vi wr => ∃ (q : Nat) (a : Option Addr) (c : Nat) (x y z : Int), vi = .int .i64 (q : Int) ∧ vl = .slice a (LL q) c ∧ q ≤ 3 ∧ Hid (Rd w (.slice a (LL q) c) (d.drop (PP q))) ∧ Hid (Bhd wr (w.heap.size + 1) x y z) ∧ Hid (Bhd wr w.heap.size 0 0 0) ∧ Hid ((1 ≤ q → x = (n0 : Int) ∧ k0 ≠ 0) ∧ (2 ≤ q → y = (n1 : Int) ∧ k1 ≠ 0) ∧ (3 ≤ q → z = (n2 : Int) ∧ k2 ≠ 0)) ∧ Hid (Below w.heap.size w wr)) (fun _ vi _ => 3 - (intOf vi).toNat)
  case atStart => exact ⟨0, a1, c1, 0, 0, 0, rfl, rfl, Nat.zero_le _, HR0, hide (X2.out _ _ _ _), hide (X1.out _ _ _ _), hide ⟨fun h => absurd h (by decide), fun h => absurd h (by decide), fun h => absurd h (by decide)⟩, hide (HB2.out _ _)⟩
  case round =>
    obtain ⟨q, a, c, x, y, z, rfl, rfl, hq, hRq, hH, hZ, hI, hB⟩ := hrel
    clear HR0 k1'' hck
    by_cases hlt : q < 3
    case neg =>
      have e : q = 3 := by omega
      subst e
      have h1 := hI.out.1 (by decide)
      have h2 := hI.out.2.1 (by decide)
      have h3 := hI.out.2.2 (by decide)
      obtain ⟨rfl, h1'⟩ := h1
      obtain ⟨rfl, h2'⟩ := h2
      obtain ⟨rfl, h3'⟩ := h3
      by_cases hend : 1 + k0 + k1 + k2 = d.length
      case neg =>
        have HE3 : Hid (readH d = .error 3) := hide (by rw [HE.out, if_pos (.inr (.inr (.inr hend)))])
        have hlen : LL 3 ≠ 0 := by
          rw [HLL.out, HP.out.2.2.2, List.length_drop]
          have := HL.out
          omega
        have hgt : (0 : Int) < (LL 3 : Int) := by omega
        have hgt' : 0 < LL 3 := by omega
        have hgd' : decide (0 < LL 3) = true := decide_eq_true hgt'
        generalize LL 3 = ln at *
        obtain ⟨⟨r0, r1, r2⟩, rf⟩ := hZ.out.cell
        have f0 := rf 0
        have f1 := rf 1
        have f2 := rf 2
        clear rf hlen h1' h2' h3' hend HE
        go_wp2
        refine bodyPost_ret (v := .tuple #[.agg #[.int .i64 0, .int .i64 0, .int .i64 0], .int .i64 3]) (by simp [results, Tryd.results37, go_sem, r0, r1, r2]) rfl ?_
        exact HeadRead.form HE3.out (belowThree hB.out _ (Nat.le_refl _) _ _ _)
      have hlen : LL 3 = 0 := by
        rw [HLL.out, HP.out.2.2.2, List.length_drop]
        omega
      have HER : Hid (headErr (n0 : Int) (n1 : Int) (n2 : Int) = errH (readH d)) := hide (by
        rw [HE.out, if_neg (by omega)]
        unfold headErr
        by_cases g1 : n0 < 1 ∨ 3 < n0
        · rw [if_neg (by omega), if_pos g1]; rfl
        · rw [if_pos (by omega), if_neg g1]
          by_cases g2 : 6 ≤ n1
          · rw [if_pos g2, if_neg (fun h => by have := h.2.1; omega)]; rfl
          · rw [if_neg g2, if_pos ⟨by omega, by omega, by omega, by omega⟩]; rfl)
      have HOK : Hid (∀ v k f, readH d = .ok (v, k, f) → (n0 : Int) = (v : Int) ∧ (n1 : Int) = (k : Int) ∧ (n2 : Int) = (f : Int)) := hide (fun v k f hh => by
        rw [HE.out] at hh
        split at hh
        · cases hh
        split at hh
        · cases hh
        split at hh
        · cases hh
        simp only [Except.ok.injEq, Prod.mk.injEq] at hh
        obtain ⟨rfl, rfl, rfl⟩ := hh
        exact ⟨rfl, rfl, rfl⟩)
      rw [HER.out] at HF
      rw [hlen] at hRq ⊢
      obtain ⟨er, her⟩ : ∃ er, er = errH (readH d) := ⟨_, rfl⟩
      rw [← her] at HF
      have HEQ := hide her
      clear her
      obtain ⟨⟨r0, r1, r2⟩, rf⟩ := hZ.out.cell
      have f0 := rf 0
      have f1 := rf 1
      have f2 := rf 2
      obtain ⟨⟨g0, g1, g2⟩, -⟩ := hH.out.cell
      have HKA : Hid (∀ W, Below wr.heap.size wr W → W.cell? ⟨w.heap.size + 1, 0, none⟩ = some (.int .i64 (n0 : Int)) ∧ W.cell? ⟨w.heap.size + 1, 1, none⟩ = some (.int .i64 (n1 : Int)) ∧ W.cell? ⟨w.heap.size + 1, 2, none⟩ = some (.int .i64 (n2 : Int))) := hide (fun W hb => (hH.out.below hb hH.out.lt).cell.1)
      have HBD : Hid (Below wr.heap.size wr wr.drew) := hide ((Below.refl _ _).drew)
      have HK0 := hide (HKA.out _ HBD.out)
      generalize (n0 : Int) = N0 at *
      generalize (n1 : Int) = N1 at *
      generalize (n2 : Int) = N2 at *
      clear rf h1' h2' h3' hend HE HER HL HD hI hlen HP
      have hne0 : w.heap.size ≠ w.heap.size + 1 := by omega
      have HZS : Hid (Bhd (((wr.setCell ⟨w.heap.size, 0, none⟩ (.int .i64 N0)).setCell ⟨w.heap.size, 1, none⟩ (.int .i64 N1)).setCell ⟨w.heap.size, 2, none⟩ (.int .i64 N2)) w.heap.size N0 N1 N2) := hide (((hZ.out.set0 N0).set1 N1).set2 N2)
      have HHS : Hid (Bhd (((wr.setCell ⟨w.heap.size, 0, none⟩ (.int .i64 N0)).setCell ⟨w.heap.size, 1, none⟩ (.int .i64 N1)).setCell ⟨w.heap.size, 2, none⟩ (.int .i64 N2)) (w.heap.size + 1) N0 N1 N2) := hide (((hH.out.other (by omega) 0 _).other (by omega) 1 _).other (by omega) 2 _)
      have HBS : Hid (Below w.heap.size w (((wr.setCell ⟨w.heap.size, 0, none⟩ (.int .i64 N0)).setCell ⟨w.heap.size, 1, none⟩ (.int .i64 N1)).setCell ⟨w.heap.size, 2, none⟩ (.int .i64 N2)).drew) := hide (belowThree hB.out _ (Nat.le_refl _) _ _ _).drew
      go_upto_region 15 with fail
      go_region_held2 (fun w' => w'.cell? ⟨w.heap.size + 1, 0, none⟩ = some (.int .i64 N0) ∧ w'.cell? ⟨w.heap.size + 1, 1, none⟩ = some (.int .i64 N1) ∧ w'.cell? ⟨w.heap.size + 1, 2, none⟩ = some (.int .i64 N2)) (first | exact HK0.out | exact HK2.out | exact HK3.out | exact HHS.out.cell.1 | go_keep)
        (first
          | (go_at_call 18; refine (HF.out wr.drew).mono ?_; rintro e W2 ⟨rfl, hb2⟩; have HB2 := hide (HBD.out.trans hb2); have HK2 := hide (HKA.out W2 HB2.out); have HE2 := hide (hB.out.trans (HB2.out.mono hB.out.size)); obtain ⟨⟨s0, s1, s2⟩, sf⟩ := (hZ.out.below HB2.out hZ.out.lt).cell; have sf0 := sf 0; have sf1 := sf 1; have sf2 := sf 2; obtain ⟨⟨t0, t1, t2⟩, -⟩ := (hH.out.below HB2.out hH.out.lt).cell; clear hb2 sf)
          | (go_at_call 18; refine (HF.out (((wr.setCell ⟨w.heap.size, 0, none⟩ (.int .i64 N0)).setCell ⟨w.heap.size, 1, none⟩ (.int .i64 N1)).setCell ⟨w.heap.size, 2, none⟩ (.int .i64 N2)).drew).mono ?_; rintro e W3 ⟨rfl, hb3⟩; have HK3 := hide (HHS.out.below hb3 HHS.out.lt).cell.1; have HE3 := hide (HBS.out.trans (hb3.mono HBS.out.size)); obtain ⟨⟨s0, s1, s2⟩, -⟩ := (HZS.out.below hb3 HZS.out.lt).cell; clear hb3))
      all_goals
        go_wp2
        refine bodyPost_ret (v := .tuple #[.agg #[.int .i64 N0, .int .i64 N1, .int .i64 N2], .int .i64 er]) (by simp [results, Tryd.results37, go_sem, s0, s1, s2]) rfl ⟨N0, N1, N2, by rw [HEQ.out], HOK.out, ?_⟩
        first
        | exact HE3.out
        | exact (belowThree HE2.out _ (Nat.le_refl _) _ _ _)
        | exact (belowThree HE2.out _ (Nat.le_refl _) _ _ _).drew
    have h3 : q = 0 ∨ q = 1 ∨ q = 2 := by omega
    rcases h3 with rfl | rfl | rfl
    · have HGQ := hide (HG.out wr a c 0 n0 k0 hB.out hRq.out (by rw [HP.out.1]; exact HD.out.1))
      by_cases hk : k0 = 0
      · have HE3 : Hid (readH d = .error 3) := hide (by rw [HE.out, if_pos (.inl hk)])
        have hk' : ((k0 : Int) == 0) = true := by rw [beq_iff_eq]; omega
        obtain ⟨⟨r0, r1, r2⟩, rf⟩ := hZ.out.cell
        have f0 := rf 0
        have f1 := rf 1
        have f2 := rf 2
        clear rf hk HE HL
        go_wp2_with fail
        refine HGQ.out.mono ?_
        rintro e W2 ⟨rfl, hw2⟩
        rw [hw2]
        go_wp2
        refine bodyPost_ret (v := .tuple #[.agg #[.int .i64 0, .int .i64 0, .int .i64 0], .int .i64 3]) (by simp [results, Tryd.results37, go_sem, r0, r1, r2]) rfl ?_
        exact HeadRead.form HE3.out (belowThree hB.out _ (Nat.le_refl _) _ _ _)
      have hk' : ((k0 : Int) == 0) = false := beq_eq_false_iff_ne.2 (by omega)
      have HKQ := hide hk
      obtain ⟨a', c', hrn, hcut⟩ := HST.out a c 0 k0 (by rw [HP.out.2.1, HP.out.1]) (by rw [HP.out.1]; have := HL.out; omega) hRq.out
      have kc := hcut (k0 : Int) rfl
      have HRN := hide hrn
      obtain ⟨⟨g0, g1, g2⟩, gf⟩ := hH.out.cell
      have fq := gf 0
      have HHN := hide (hH.out.set0 (n0 : Int))
      have HZN := hide (hZ.out.other (show w.heap.size ≠ w.heap.size + 1 by omega) 0 (.int .i64 (n0 : Int)))
      have HBN := hide (hB.out.setCell (p := ⟨w.heap.size + 1, 0, none⟩) (show w.heap.size ≤ w.heap.size + 1 by omega) (.int .i64 (n0 : Int)))
      clear hk hcut hrn gf
      go_wp2_with fail
      refine HGQ.out.mono ?_
      rintro e W2 ⟨rfl, hw2⟩
      rw [hw2]
      clear hw2 W2
      go_wp2
      go_region
      all_goals
        go_wp2
        go_roundw
        case rel => exact ⟨1, a', c', (n0 : Int), y, z, rfl, rfl, by omega, HRN, HHN, HZN, hide ⟨fun _ => ⟨rfl, HKQ.out⟩, fun h => absurd h (by decide), fun h => absurd h (by decide)⟩, hide HBN.out.drew⟩
        case measure => simp [intOf]
    · have HGQ := hide (HG.out wr a c 1 n1 k1 hB.out hRq.out (by rw [HP.out.2.1]; exact HD.out.2.1))
      by_cases hk : k1 = 0
      · have HE3 : Hid (readH d = .error 3) := hide (by rw [HE.out, if_pos (.inr (.inl hk))])
        have hk' : ((k1 : Int) == 0) = true := by rw [beq_iff_eq]; omega
        obtain ⟨⟨r0, r1, r2⟩, rf⟩ := hZ.out.cell
        have f0 := rf 0
        have f1 := rf 1
        have f2 := rf 2
        clear rf hk HE HL
        go_wp2_with fail
        refine HGQ.out.mono ?_
        rintro e W2 ⟨rfl, hw2⟩
        rw [hw2]
        go_wp2
        refine bodyPost_ret (v := .tuple #[.agg #[.int .i64 0, .int .i64 0, .int .i64 0], .int .i64 3]) (by simp [results, Tryd.results37, go_sem, r0, r1, r2]) rfl ?_
        exact HeadRead.form HE3.out (belowThree hB.out _ (Nat.le_refl _) _ _ _)
      have hk' : ((k1 : Int) == 0) = false := beq_eq_false_iff_ne.2 (by omega)
      have HKQ := hide hk
      obtain ⟨a', c', hrn, hcut⟩ := HST.out a c 1 k1 (by rw [HP.out.2.2.1, HP.out.2.1]) (by rw [HP.out.2.1]; have := HL.out; omega) hRq.out
      have kc := hcut (k1 : Int) rfl
      have HRN := hide hrn
      obtain ⟨⟨g0, g1, g2⟩, gf⟩ := hH.out.cell
      have fq := gf 1
      have HHN := hide (hH.out.set1 (n1 : Int))
      have HZN := hide (hZ.out.other (show w.heap.size ≠ w.heap.size + 1 by omega) 1 (.int .i64 (n1 : Int)))
      have HBN := hide (hB.out.setCell (p := ⟨w.heap.size + 1, 1, none⟩) (show w.heap.size ≤ w.heap.size + 1 by omega) (.int .i64 (n1 : Int)))
      clear hk hcut hrn gf
      go_wp2_with fail
      refine HGQ.out.mono ?_
      rintro e W2 ⟨rfl, hw2⟩
      rw [hw2]
      clear hw2 W2
      go_wp2
      go_region
      all_goals
        go_wp2
        go_roundw
        case rel => exact ⟨2, a', c', x, (n1 : Int), z, rfl, rfl, by omega, HRN, HHN, HZN, hide ⟨fun _ => hI.out.1 (by decide), fun _ => ⟨rfl, HKQ.out⟩, fun h => absurd h (by decide)⟩, hide HBN.out.drew⟩
        case measure => simp [intOf]
    · have HGQ := hide (HG.out wr a c 2 n2 k2 hB.out hRq.out (by rw [HP.out.2.2.1]; exact HD.out.2.2))
      by_cases hk : k2 = 0
      · have HE3 : Hid (readH d = .error 3) := hide (by rw [HE.out, if_pos (.inr (.inr (.inl hk)))])
        have hk' : ((k2 : Int) == 0) = true := by rw [beq_iff_eq]; omega
        obtain ⟨⟨r0, r1, r2⟩, rf⟩ := hZ.out.cell
        have f0 := rf 0
        have f1 := rf 1
        have f2 := rf 2
        clear rf hk HE HL
        go_wp2_with fail
        refine HGQ.out.mono ?_
        rintro e W2 ⟨rfl, hw2⟩
        rw [hw2]
        go_wp2
        refine bodyPost_ret (v := .tuple #[.agg #[.int .i64 0, .int .i64 0, .int .i64 0], .int .i64 3]) (by simp [results, Tryd.results37, go_sem, r0, r1, r2]) rfl ?_
        exact HeadRead.form HE3.out (belowThree hB.out _ (Nat.le_refl _) _ _ _)
      have hk' : ((k2 : Int) == 0) = false := beq_eq_false_iff_ne.2 (by omega)
      have HKQ := hide hk
      obtain ⟨a', c', hrn, hcut⟩ := HST.out a c 2 k2 (by rw [HP.out.2.2.2, HP.out.2.2.1]) (by rw [HP.out.2.2.1]; have := HL.out; omega) hRq.out
      have kc := hcut (k2 : Int) rfl
      have HRN := hide hrn
      obtain ⟨⟨g0, g1, g2⟩, gf⟩ := hH.out.cell
      have fq := gf 2
      have HHN := hide (hH.out.set2 (n2 : Int))
      have HZN := hide (hZ.out.other (show w.heap.size ≠ w.heap.size + 1 by omega) 2 (.int .i64 (n2 : Int)))
      have HBN := hide (hB.out.setCell (p := ⟨w.heap.size + 1, 2, none⟩) (show w.heap.size ≤ w.heap.size + 1 by omega) (.int .i64 (n2 : Int)))
      clear hk hcut hrn gf
      go_wp2_with fail
      refine HGQ.out.mono ?_
      rintro e W2 ⟨rfl, hw2⟩
      rw [hw2]
      clear hw2 W2
      go_wp2
      go_region
      all_goals
        go_wp2
        go_roundw
        case rel => exact ⟨3, a', c', x, y, (n2 : Int), rfl, rfl, by omega, HRN, HHN, HZN, hide ⟨fun _ => hI.out.1 (by decide), fun _ => hI.out.2.1 (by decide), fun _ => ⟨rfl, HKQ.out⟩⟩, hide HBN.out.drew⟩
        case measure => simp [intOf]

end Go.Proofs.YtddhcohjmgdajaaDoor
