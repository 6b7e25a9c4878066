/- What one call of the law FilesDo does: the two disks answer the same, and are the same behind it. -/
import Derived.Test.YtfhgjnfichgdiaaRef11P
import Derived.Test.YtfhgjnfichgdiaaFilesFew
import Derived.Test.YtfhgjnfichgdiaaStepCall
import Derived.Deep.RegionHeld2
namespace Go.Proofs.Ytfhgjnfichgdiaa
open Go.RowKit

theorem Two.fresh {K : Nat → Prop} {w w' : World} {p q : Nat} {d r : Dk} {N T : Nat} (h : Two K w p q d r N T) (hb : Below w.heap.size w w') : Two (fun k => K k ∨ (w.heap.size ≤ k ∧ k < w'.heap.size)) w' p q d r N T :=
  (h.also hb).less fun k hk => by
    rcases hk with hk | hk
    · exact .inl hk
    · exact .inr hk.1

theorem Two.start {B : Nat} {w w' : World} {p q : Nat} {d r : Dk} {N T : Nat} (h : Two (fun k => k < B) w p q d r N T) (hB : B ≤ w.heap.size) (hb : Below w.heap.size w w') : Two (fun k => k < B ∨ (w.heap.size ≤ k ∧ k < w'.heap.size)) w' p q d r N T ∧ ∀ k, (k < B ∨ (w.heap.size ≤ k ∧ k < w'.heap.size)) → k < w'.heap.size :=
  ⟨h.fresh hb, fun k hk => by have := hb.size; omega⟩

theorem Only.kept {K : Nat → Prop} {w w' : World} (h : Only (fun k => ¬ K k) w w') {k : Nat} (hk : K k) (hs : k < w.heap.size) : w'.heap[k]? = w.heap[k]? := h.block k hs fun hn => hn hk

theorem Only.low {B : Nat} {K : Nat → Prop} {w w' : World} (h : Only (fun k => ¬ K k) w w') (hK : ∀ k, k < B → K k) (hB : B ≤ w.heap.size) : Below B w w' := h.below hB fun k hk => by
  by_cases hb : k < B
  · exact absurd (hK k hb) hk
  · omega

/-- What the law's call leaves. -/
def Does (B : Nat) (w : World) (p q : Nat) (N T : Nat) (e : Ending) (w' : World) : Prop :=
  e = .returned (.bool true) ∧ (∃ d, Two (fun k => k < B) w' p q d d N T) ∧ Below B w w'

theorem Does.of {B : Nat} {K : Nat → Prop} {w w0 w' : World} {p q : Nat} {d : Dk} {N T N' T' : Nat} (h : Two K w' p q d d N T) (hK : ∀ k, k < B → K k) (hB : B ≤ w.heap.size) (h0 : Below w.heap.size w w0) (ho : Only (fun k => ¬ K k) w0 w') (hN : N ≤ N') (hT : T ≤ T') : Does B w p q N' T' (.returned (.bool true)) w' :=
  ⟨rfl, ⟨d, (h.less hK).mono hN hT⟩, (h0.mono hB).trans (ho.low hK (Nat.le_trans hB h0.size))⟩

set_option maxRecDepth 100000 in
set_option maxHeartbeats 8000000 in
theorem does_any {B p q : Nat} {d : Dk} {N T : Nat} (x : FOp) (vb vk : Value) (w : World) (h : Two (fun k => k < B) w p q d d N T) (hB : B ≤ w.heap.size) (hrb : Rd w vb x.b) (hrk : RdI w vk x.keep)
    (hvb : x.b = [] ∨ ∀ k, vb.ownBlock = some k → k < B) (hvk : x.keep = [] ∨ ∀ k, vk.ownBlock = some k → k < B) (hN : N ≤ 800000) (hT : T ≤ 900000000) (hbl : x.b.length ≤ 300) (hkl : x.keep.length ≤ 300) (i1 : I64 x.name) (i2 : I64 x.n) :
    Calls Try.prog 8 #[ptr p, ptr q, .agg #[.int .i64 x.kind, .int .i64 x.name, .int .i64 x.n, vb, vk]] w fun e w' => Does B w p q (N + 4) (T + 600) e w' := by
  obtain ⟨K, nm, xn, bl, kl⟩ := x
  dsimp only at *
  obtain ⟨W0, hW0⟩ : ∃ W0, W0 = w.alloc (.cells #[.int .i64 K, .int .i64 nm, .int .i64 xn, vb, vk] 33) := ⟨_, rfl⟩
  have HB0 : Hid (Below w.heap.size w W0) := hide (by rw [hW0]; exact allocB _ _)
  have HX : Hid (Bk 33 W0 w.heap.size #[.int .i64 K, .int .i64 nm, .int .i64 xn, vb, vk]) := hide (by rw [hW0]; exact heap_alloc_new w _)
  obtain ⟨KK, hKK⟩ : ∃ KK : Nat → Prop, KK = fun k => k < B ∨ (w.heap.size ≤ k ∧ k < W0.heap.size) := ⟨_, rfl⟩
  have HT0 : Hid (Two KK W0 p q d d N T) := hide (by rw [hKK]; exact (h.start hB HB0.out).1)
  have HKL : Hid (∀ k, KK k → k < W0.heap.size) := hide (by rw [hKK]; exact (h.start hB HB0.out).2)
  have HKB : Hid (∀ k, k < B → KK k) := hide (by rw [hKK]; exact fun k hk => .inl hk)
  have HKR : Hid (KK w.heap.size) := hide (by rw [hKK]; exact .inr ⟨Nat.le_refl _, HX.out.lt⟩)
  obtain ⟨ba, bc, rfl, -⟩ := id hrb
  obtain ⟨ka, kc, rfl, -⟩ := id hrk
  have HRB : Hid (Rd W0 (.slice ba bl.length bc) bl) := hide (hrb.below HB0.out (Nat.le_refl _))
  have HRK : Hid (RdI W0 (.slice ka kl.length kc) kl) := hide (hrk.below HB0.out (Nat.le_refl _))
  have HVB := hide hvb
  have HVK := hide hvk
  have HI := hide (And.intro i1 i2)
  have HBW := hide hB
  have HCE : Hid (∀ W, Only (fun k => ¬ KK k) W0 W → W.cell? ⟨w.heap.size, 1, none⟩ = some (.int .i64 nm) ∧ W.cell? ⟨w.heap.size, 2, none⟩ = some (.int .i64 xn) ∧ W.cell? ⟨w.heap.size, 3, none⟩ = some (.slice ba bl.length bc) ∧ W.cell? ⟨w.heap.size, 4, none⟩ = some (.slice ka kl.length kc)) := hide (fun W ho => by
    have hb := HX.out.keep (ho.kept HKR.out HX.out.lt)
    exact ⟨(hb.cell 1 rfl).1, (hb.cell 2 rfl).1, (hb.cell 3 rfl).1, (hb.cell 4 rfl).1⟩)
  have HKW : Hid (∀ W, Only (fun k => ¬ KK k) W0 W → ∀ k, KK k → k < W.heap.size) := hide (fun W ho k hk => Nat.lt_of_lt_of_le (HKL.out k hk) ho.size)
  have HRW : Hid (∀ W, Only (fun k => ¬ KK k) W0 W → Rd W (.slice ba bl.length bc) bl) := hide (fun W ho => HRB.out.onlyE ho (by
    rcases HVB.out with h | h
    · exact .inl h
    · exact .inr fun k hk hn => hn (HKB.out k (h k hk))))
  have HRI : Hid (∀ W, Only (fun k => ¬ KK k) W0 W → RdI W (.slice ka kl.length kc) kl) := hide (fun W ho => HRK.out.onlyE ho (by
    rcases HVK.out with h | h
    · exact .inl h
    · exact .inr fun k hk hn => hn (HKB.out k (h k hk))))
  have HON : Hid (∀ F : Nat → Prop, (∀ k, F k → ¬ KK k) → bl = [] ∨ ∀ k, (Value.slice ba bl.length bc).ownBlock = some k → ¬ F k) := hide (fun F hF => by
    rcases HVB.out with h | h
    · exact .inl h
    · exact .inr fun k hk hf => hF k hf (HKB.out k (h k hk)))
  have HOK : Hid (∀ F : Nat → Prop, (∀ k, F k → ¬ KK k) → kl = [] ∨ ∀ k, (Value.slice ka kl.length kc).ownBlock = some k → ¬ F k ∧ k < w.heap.size) := hide (fun F hF => by
    rcases HVK.out with h | h
    · exact .inl h
    · exact .inr fun k hk => ⟨fun hf => hF k hf (HKB.out k (h k hk)), Nat.lt_of_lt_of_le (h k hk) HBW.out⟩)
  have HSD : Hid (Only (fun k => ¬ KK k) W0 W0.drew) := hide (Only.ofBelow (Below.refl _ _).drew)
  have HTD : Hid (Two KK W0.drew p q d d N T) := hide (HT0.out.below (Below.refl _ _).drew)
  have c0 : W0.cell? ⟨w.heap.size, 0, none⟩ = some (.int .i64 K) := (HX.out.cell 0 rfl).1
  obtain ⟨c1, c2, c3, c4⟩ := HCE.out W0 (Only.refl _ _)
  clear h hB hrb hrk hvb hvk i1 i2 HRB HRK hKK
  go_enter Try.func8, Try.ntmps8
  go_upto_region 1 with fail
  rw [← hW0]
  have HW0 := hide hW0
  clear hW0
  by_cases k0 : K = 0
  · subst k0
    obtain ⟨⟨D, c⟩, hD⟩ : ∃ r, r = appendD d nm bl := ⟨_, rfl⟩
    have HC1 : Hid (∀ v0 Wc, Own Wc W0.heap.size v0 bl → Below W0.heap.size W0.drew Wc → Calls Try.prog 15 #[ptr p, .int .i64 nm, v0] Wc fun e w' => ∃ v', e = .returned v' ∧ (v' = .int .i64 c ∧ Two KK w' p q D d (N + 2) (T + 300) ∧ Only (fun k => ¬ KK k) Wc w')) := hide (fun v0 Wc ho hb => by
      have hK2 : ∀ k, (KK k ∨ (W0.drew.heap.size ≤ k ∧ k < Wc.heap.size)) → k < Wc.heap.size := fun k hk => by
        rcases hk with hk | hk
        · exact Nat.lt_of_lt_of_le (HKL.out k hk) hb.size
        · exact hk.2
      refine (twoL (c := c) (d' := D) (N' := N + 2) (T' := T + 300) (HTD.out.fresh hb) hK2 (by omega) (by omega) (fun F hF hK => (append_any nm HI.out.1 v0 bl _ hF ho.rd (.inr fun k hk hf => hK k hf (.inr ⟨(World.ownsRow.lt ho k hk).1, (World.ownsRow.lt ho k hk).2⟩)) (by omega) (by omega) (by omega)).mono (fun e w' hh => by
        have e1 : appendD d nm bl = (D, c) := hD.symm
        rw [e1] at hh
        obtain ⟨g0, F', g1, g2⟩ := hh
        exact ⟨g0, F', g1.mono (by omega) (by omega), g2⟩))).mono (fun e w' hh => ⟨_, hh.1, rfl, hh.2.1.less (fun k hk => .inl hk), hh.2.2.mono (fun k hk hn => hk (.inl hn))⟩))
    have HC2 : Hid (∀ W, Two KK W p q D d (N + 2) (T + 300) → Only (fun k => ¬ KK k) W0 W → Calls Try.prog 19 #[ptr q, .int .i64 nm, .slice ba bl.length bc] W fun e w' => ∃ v', e = .returned v' ∧ (v' = .int .i64 c ∧ Two KK w' p q D D (N + 4) (T + 600) ∧ Only (fun k => ¬ KK k) W w')) := hide (fun W hT hO => (twoR (c := c) (r' := D) hT (HKW.out _ hO) (by omega) (by omega) (fun G hG hK => (refAppend_any nm _ bl _ hG (HRW.out W hO) (by omega) (by omega) (by omega) (HON.out G hK)).mono (fun e w' hh => by
      have e1 : appendD d nm bl = (D, c) := hD.symm
      rw [e1] at hh
      obtain ⟨g0, F', g1, g2⟩ := hh
      exact ⟨g0, F', g1.mono (by omega) (by omega), g2⟩))).mono (fun e w' hh => ⟨_, hh.1, rfl, hh.2⟩))
    have HE1 : Hid (∀ args w, (callFunc 15 args).run Try.prog w = .ok (.enter 15 args) w) := hide (enters_of Try.func15 (by kernel_rfl) rfl)
    have HE2 : Hid (∀ args w, (callFunc 19 args).run Try.prog w = .ok (.enter 19 args) w) := hide (enters_of Try.func19 (by kernel_rfl) rfl)
    have HS : Hid (∀ W, Only (fun k => ¬ KK k) W0 W → W.cell? ⟨w.heap.size, 1, none⟩ = some (.int .i64 nm) ∧ W.cell? ⟨w.heap.size, 3, none⟩ = some (.slice ba bl.length bc)) := hide (fun W ho => ⟨(HCE.out W ho).1, (HCE.out W ho).2.2.1⟩)
    have HRD := hide (HRW.out _ HSD.out)
    have HNIL : Hid (Own W0.drew W0.heap.size (.slice none 0 0) []) := hide (Own.nil _ _)
    have HSZ : Hid (W0.heap.size ≤ W0.drew.heap.size) := hide (Nat.le_refl _)
    have HLM : Hid (([] : List UInt8).length + bl.length ≤ 70368744177664) := hide (by simp; omega)
    clear hD c1 c2 c3 c4 HCE
    go_upto_region 3 with fail
    clear c0
    go_region_held2 (fun W => W.cell? ⟨w.heap.size, 1, none⟩ = some (.int .i64 nm) ∧ W.cell? ⟨w.heap.size, 3, none⟩ = some (.slice ba bl.length bc))
      (first | (with_reducible exact HS.out _ HSD.out) | (with_reducible exact HS.out _ HOC.out) | (with_reducible exact HS.out _ HO1.out) | (with_reducible exact HS.out _ HO2.out))
      (first
        | ((refine step_append_rd (by rfl) _ _ (by rfl) W0.heap.size (.slice none 0 0) [] (by rfl) HNIL.out (.slice ba bl.length bc) bl (by rfl) HRD.out HLM.out HSZ.out ?_); intro v0 Wc ho0 hb0; rw [List.nil_append] at ho0; have HO0 := hide ho0; have HBC : Hid (Below W0.heap.size W0.drew Wc) := hide hb0; have HOC : Hid (Only (fun k => ¬ KK k) W0 Wc) := hide (HSD.out.trans (Only.ofBelow hb0) (fun _ _ h => h)); obtain ⟨a0, e0, hv0⟩ := ho0.shape; subst hv0; clear ho0 hb0)
        | ((with_reducible refine step_call 15 _ _ rfl rfl #[ptr p, .int .i64 nm, .slice a0 bl.length e0] (by simp [Act.eval]) HE1.out (HC1.out _ Wc HO0.out HBC.out) ?_); rintro v1 W1 ⟨rfl, ht1, ho1⟩; have HT1 := hide ht1; have HO1 : Hid (Only (fun k => ¬ KK k) W0 W1) := hide (HOC.out.trans ho1 (fun _ _ h => h)); clear ht1 ho1)
        | ((with_reducible refine step_call 19 _ _ rfl rfl #[ptr q, .int .i64 nm, .slice ba bl.length bc] (by simp [Act.eval]) HE2.out (HC2.out W1 HT1.out HO1.out) ?_); rintro v2 W2 ⟨rfl, ht2, ho2⟩; have HT2 := hide ht2; have HO2 : Hid (Only (fun k => ¬ KK k) W0 W2) := hide (HO1.out.trans ho2 (fun _ _ h => h)); clear ht2 ho2))
    all_goals
      go_wp2
      go_ret
      exact Does.of HT2.out HKB.out HBW.out HB0.out HO2.out (by omega) (by omega)
  by_cases k1 : K = 1
  · subst k1
    obtain ⟨⟨b1, cd⟩, hD⟩ : ∃ r, r = readD d nm := ⟨_, rfl⟩
    have HLB : Hid (b1.length ≤ T) := hide (by
      obtain ⟨F, G, g1, -⟩ := HT0.out
      have hk : b1 = (readD d nm).1 := by rw [← hD]
      rw [hk]
      unfold readD
      obtain ⟨L, -, -, hbn, -⟩ := g1
      split
      · exact Nat.zero_le _
      · split
        · rename_i f hf
          by_cases hh : f < d.files.length
          · exact hbn.bytes _ (mem_fl hh)
          · show (fl d.files f).b.length ≤ T
            unfold fl
            rw [List.getD, List.getElem?_eq_none (by omega)]
            exact Nat.zero_le _
        · exact Nat.zero_le _)
    have HC1 : Hid (Calls Try.prog 18 #[ptr p, .int .i64 nm] W0 fun e w' => ∃ v, e = .returned (.tuple #[v, .int .i64 cd]) ∧ Own w' W0.heap.size v b1 ∧ Below W0.heap.size W0 w') := hide (by
      obtain ⟨F, G, g1, -⟩ := HT0.out
      have hc := readF_any nm HI.out.1 W0 g1 (by omega)
      rw [← hD] at hc
      exact hc)
    have HC2 : Hid (∀ W, Two KK W p q d d N T → Calls Try.prog 20 #[ptr q, .int .i64 nm] W fun e w' => ∃ v, e = .returned (.tuple #[v, .int .i64 cd]) ∧ Own w' W.heap.size v b1 ∧ Below W.heap.size W w') := hide (fun W hT => by
      obtain ⟨F, G, -, g1, -⟩ := hT
      have hc := refRead_any nm W g1 (by omega) (by omega)
      rw [← hD] at hc
      exact hc)
    have HXK := hide HX.out
    clear hD c2 c3 c4
    go_wp2_with fail
    refine HC1.out.mono ?_
    rintro e W1 ⟨v1, rfl, ho1, hb1⟩
    have HO1 := hide ho1
    have HB1 := hide hb1
    have HT1 := hide (HT0.out.below hb1)
    have d1 := (HCE.out W1 (Only.ofBelow hb1)).1
    obtain ⟨va, vc, rfl⟩ := ho1.shape
    clear ho1 hb1 c0 c1
    go_wp2_with fail
    refine (HC2.out W1 HT1.out).mono ?_
    rintro e W2 ⟨v2, rfl, ho2, hb2⟩
    have HB2 := hide (HB1.out.trans (hb2.mono HB1.out.size))
    have HO2 := hide (HO1.out.below hb2 (Nat.le_refl _))
    have hs1 := HO2.out.rd.str
    have hs2 := ho2.rd.str
    obtain ⟨va2, vc2, rfl⟩ := ho2.shape
    have HT2 := hide (HT0.out.fresh HB2.out)
    have HLN : Hid ((b1.length : Int) ≤ 9223372036854775807) := hide (by have := HLB.out; omega)
    clear ho2 hb2 d1
    rcases HO2.out.2 with ⟨hv, hn⟩ | ⟨g, cap, cur, hv, hbg, hgr, hnc, hcm, hcs, -⟩
    · have hn0 : b1 = [] := List.eq_nil_of_length_eq_zero hn
      subst hn0
      injection hv with h1 _ h3
      subst h1 h3
      clear hn
      have hnl : ([] : List UInt8).length = 0 := rfl
      rw [hnl] at hs1 hs2 ⊢
      clear hnl
      obtain ⟨S1, hS1⟩ : ∃ S1, S1 = bs [] := ⟨_, rfl⟩
      rw [← hS1] at hs1 hs2
      clear hS1
      go_wp2
      go_loopw [12] (fun vi wr => vi = .int .i64 0 ∧ Hid (Two (fun k => KK k ∨ (W0.heap.size ≤ k ∧ k < W2.heap.size)) wr p q d d N T) ∧ Hid (Only (fun k => ¬ KK k) W0 wr)) (fun _ _ => 0)
      case atStart => exact ⟨rfl, HT2, hide (Only.ofBelow HB2.out)⟩
      case round =>
        obtain ⟨rfl, HTR, HOR⟩ := hrel
        clear hs1 hs2
        go_wp2
        go_ret
        exact Does.of (K := KK) (HTR.out.less (fun k hk => .inl hk)) HKB.out HBW.out HB0.out HOR.out (by omega) (by omega)
    injection hv with h1 _ h3
    subst h1 h3
    obtain ⟨n, hn⟩ : ∃ n, n = b1.length := ⟨_, rfl⟩
    have hni := HLN.out
    rw [← hn] at hni hnc hs1 hs2 ⊢
    have HG : Hid (∃ cur, W2.heap[g]? = some (.cells cur 5 (0, 0)) ∧ n ≤ cur.size) := hide ⟨cur, hgr, by omega⟩
    have HGK : Hid (W0.heap.size ≤ g ∧ g < W2.heap.size) := hide ⟨hbg, (Array.getElem?_eq_some_iff.1 hgr).1⟩
    obtain ⟨S1, hS1⟩ : ∃ S1, S1 = bs b1 := ⟨_, rfl⟩
    rw [← hS1] at hs1 hs2
    clear hn hS1 hgr hcs hbg cur
    go_wp2
    go_loopw [12] (fun vi wr => ∃ i : Nat, vi = .int .i64 (i : Int) ∧ i ≤ n ∧ Hid (∃ cur, wr.heap[g]? = some (.cells cur 5 (0, 0)) ∧ n ≤ cur.size) ∧ Hid (Two (fun k => KK k ∨ (W0.heap.size ≤ k ∧ k < W2.heap.size)) wr p q d d N T) ∧ Hid (Only (fun k => ¬ KK k) W0 wr)) (fun vi _ => n - (intOf vi).toNat)
    case atStart => exact ⟨0, rfl, Nat.zero_le _, HG, HT2, hide (Only.ofBelow HB2.out)⟩
    case round =>
      obtain ⟨i, rfl, hi, HR, HTR, HOR⟩ := hrel
      clear hs1 hs2
      by_cases hlt : i < n
      case neg =>
        obtain rfl : i = n := by omega
        go_wp2
        go_ret
        exact Does.of (K := KK) (HTR.out.less (fun k hk => .inl hk)) HKB.out HBW.out HB0.out HOR.out (by omega) (by omega)
      obtain ⟨cu, hcu, hcz⟩ := HR.out
      have hci : (i : Int) < (n : Int) := by omega
      have ci : wr.cell? ⟨g, i, none⟩ = some (cu[i]'(by omega)) := (cell_of_row wr g i _ _ _ hcu).trans (Array.getElem?_eq_getElem (by omega))
      have fi : wr.frozen? ⟨g, i, none⟩ = false := frozen_of_row wr g i _ _ hcu
      have HR2 : Hid (∃ cur, (wr.setCell ⟨g, i, none⟩ (.int .u8 7)).heap[g]? = some (.cells cur 5 (0, 0)) ∧ n ≤ cur.size) := hide ⟨_, heap_setCell_same wr g i _ _ (.int .u8 7) hcu, by simpa using hcz⟩
      have HTR2 : Hid (Two (fun k => KK k ∨ (W0.heap.size ≤ k ∧ k < W2.heap.size)) (wr.setCell ⟨g, i, none⟩ (.int .u8 7)) p q d d N T) := hide (by
        obtain ⟨F, G, g1, g2, g3, g4, g5⟩ := HTR.out
        have ho : Only (fun k => KK k ∨ (W0.heap.size ≤ k ∧ k < W2.heap.size)) wr (wr.setCell ⟨g, i, none⟩ (.int .u8 7)) := (Only.refl _ _).setCell i (fun _ => .inr HGK.out) _
        exact ⟨F, G, g1.only ho g3, g2.only ho g4, g3, g4, g5⟩)
      have HOR2 : Hid (Only (fun k => ¬ KK k) W0 (wr.setCell ⟨g, i, none⟩ (.int .u8 7))) := hide (HOR.out.setCell i (fun hh => by have := HGK.out.1; omega) _)
      generalize cu[i]'(by omega) = cx at ci
      clear hcu hcz HR HTR HOR
      go_wp2
      go_roundw
      case rel => exact ⟨i + 1, by go_num, by omega, HR2, HTR2, HOR2⟩
      case measure => simp [intOf]; omega
  by_cases k2 : K = 2
  · subst k2
    obtain ⟨⟨D, c⟩, hD⟩ : ∃ r, r = syncD d nm := ⟨_, rfl⟩
    have HC1 : Hid (Calls Try.prog 21 #[ptr p, .int .i64 nm] W0.drew fun e w' => ∃ v', e = .returned v' ∧ (v' = .int .i64 c ∧ Two KK w' p q D d (N + 2) (T + 300) ∧ Only (fun k => ¬ KK k) W0.drew w')) := hide ((twoL (c := c) (d' := D) HTD.out (HKW.out _ HSD.out) (by omega) (by omega) (fun F hF hK => (sync_any nm HI.out.1 _ hF).mono (fun e w' hh => by
      have e1 : syncD d nm = (D, c) := hD.symm
      rw [e1] at hh
      obtain ⟨g0, F', g1, g2⟩ := hh
      exact ⟨g0, F', g1.mono (by omega) (by omega), g2⟩))).mono (fun e w' hh => ⟨_, hh.1, rfl, hh.2⟩))
    have HC2 : Hid (∀ W, Two KK W p q D d (N + 2) (T + 300) → Only (fun k => ¬ KK k) W0 W → Calls Try.prog 22 #[ptr q, .int .i64 nm] W fun e w' => ∃ v', e = .returned v' ∧ (v' = .int .i64 c ∧ Two KK w' p q D D (N + 4) (T + 600) ∧ Only (fun k => ¬ KK k) W w')) := hide (fun W hT hO => (twoR (c := c) (r' := D) hT (HKW.out _ hO) (by omega) (by omega) (fun G hG hK => (refSync_any nm _ hG (by omega)).mono (fun e w' hh => by
      have e1 : syncD d nm = (D, c) := hD.symm
      rw [e1] at hh
      obtain ⟨g0, F', g1, g2⟩ := hh
      exact ⟨g0, F', g1.mono (by omega) (by omega), g2⟩))).mono (fun e w' hh => ⟨_, hh.1, rfl, hh.2⟩))
    have HE1 : Hid (∀ args w, (callFunc 21 args).run Try.prog w = .ok (.enter 21 args) w) := hide (enters_of Try.func21 (by kernel_rfl) rfl)
    have HE2 : Hid (∀ args w, (callFunc 22 args).run Try.prog w = .ok (.enter 22 args) w) := hide (enters_of Try.func22 (by kernel_rfl) rfl)
    have HS : Hid (∀ W, Only (fun k => ¬ KK k) W0 W → W.cell? ⟨w.heap.size, 1, none⟩ = some (.int .i64 nm)) := hide (fun W ho => (HCE.out W ho).1)
    clear hD c1 c2 c3 c4 HCE
    go_upto_region 14 with fail
    clear c0
    go_region_held2 (fun W => W.cell? ⟨w.heap.size, 1, none⟩ = some (.int .i64 nm))
      (first | (with_reducible exact HS.out _ HSD.out) | (with_reducible exact HS.out _ HO1.out) | (with_reducible exact HS.out _ HO2.out))
      (first
        | ((with_reducible refine step_call 21 _ _ rfl rfl #[ptr p, .int .i64 nm] (by simp [Act.eval]) HE1.out HC1.out ?_); rintro v1 W1 ⟨rfl, ht1, ho1⟩; have HT1 := hide ht1; have HO1 : Hid (Only (fun k => ¬ KK k) W0 W1) := hide (HSD.out.trans ho1 (fun _ _ h => h)); clear ht1 ho1)
        | ((with_reducible refine step_call 22 _ _ rfl rfl #[ptr q, .int .i64 nm] (by simp [Act.eval]) HE2.out (HC2.out W1 HT1.out HO1.out) ?_); rintro v2 W2 ⟨rfl, ht2, ho2⟩; have HT2 := hide ht2; have HO2 : Hid (Only (fun k => ¬ KK k) W0 W2) := hide (HO1.out.trans ho2 (fun _ _ h => h)); clear ht2 ho2))
    all_goals
      go_wp2
      go_ret
      exact Does.of HT2.out HKB.out HBW.out HB0.out HO2.out (by omega) (by omega)
  by_cases k3 : K = 3
  · subst k3
    obtain ⟨⟨D, c⟩, hD⟩ : ∃ r, r = renameD d nm xn := ⟨_, rfl⟩
    have HC1 : Hid (Calls Try.prog 23 #[ptr p, .int .i64 nm, .int .i64 xn] W0.drew fun e w' => ∃ v', e = .returned v' ∧ (v' = .int .i64 c ∧ Two KK w' p q D d (N + 2) (T + 300) ∧ Only (fun k => ¬ KK k) W0.drew w')) := hide ((twoL (c := c) (d' := D) HTD.out (HKW.out _ HSD.out) (by omega) (by omega) (fun F hF hK => (rename_any nm xn HI.out.1 HI.out.2 _ hF (by omega) (by omega)).mono (fun e w' hh => by
      have e1 : renameD d nm xn = (D, c) := hD.symm
      rw [e1] at hh
      obtain ⟨g0, F', g1, g2⟩ := hh
      exact ⟨g0, F', g1.mono (by omega) (by omega), g2⟩))).mono (fun e w' hh => ⟨_, hh.1, rfl, hh.2⟩))
    have HC2 : Hid (∀ W, Two KK W p q D d (N + 2) (T + 300) → Only (fun k => ¬ KK k) W0 W → Calls Try.prog 24 #[ptr q, .int .i64 nm, .int .i64 xn] W fun e w' => ∃ v', e = .returned v' ∧ (v' = .int .i64 c ∧ Two KK w' p q D D (N + 4) (T + 600) ∧ Only (fun k => ¬ KK k) W w')) := hide (fun W hT hO => (twoR (c := c) (r' := D) hT (HKW.out _ hO) (by omega) (by omega) (fun G hG hK => (refRename_any nm xn _ hG (by omega)).mono (fun e w' hh => by
      have e1 : renameD d nm xn = (D, c) := hD.symm
      rw [e1] at hh
      obtain ⟨g0, F', g1, g2⟩ := hh
      exact ⟨g0, F', g1.mono (by omega) (by omega), g2⟩))).mono (fun e w' hh => ⟨_, hh.1, rfl, hh.2⟩))
    have HE1 : Hid (∀ args w, (callFunc 23 args).run Try.prog w = .ok (.enter 23 args) w) := hide (enters_of Try.func23 (by kernel_rfl) rfl)
    have HE2 : Hid (∀ args w, (callFunc 24 args).run Try.prog w = .ok (.enter 24 args) w) := hide (enters_of Try.func24 (by kernel_rfl) rfl)
    have HS : Hid (∀ W, Only (fun k => ¬ KK k) W0 W → W.cell? ⟨w.heap.size, 1, none⟩ = some (.int .i64 nm) ∧ W.cell? ⟨w.heap.size, 2, none⟩ = some (.int .i64 xn)) := hide (fun W ho => ⟨(HCE.out W ho).1, (HCE.out W ho).2.1⟩)
    clear hD c1 c2 c3 c4 HCE
    go_upto_region 16 with fail
    clear c0
    go_region_held2 (fun W => W.cell? ⟨w.heap.size, 1, none⟩ = some (.int .i64 nm) ∧ W.cell? ⟨w.heap.size, 2, none⟩ = some (.int .i64 xn))
      (first | (with_reducible exact HS.out _ HSD.out) | (with_reducible exact HS.out _ HO1.out) | (with_reducible exact HS.out _ HO2.out))
      (first
        | ((with_reducible refine step_call 23 _ _ rfl rfl #[ptr p, .int .i64 nm, .int .i64 xn] (by simp [Act.eval]) HE1.out HC1.out ?_); rintro v1 W1 ⟨rfl, ht1, ho1⟩; have HT1 := hide ht1; have HO1 : Hid (Only (fun k => ¬ KK k) W0 W1) := hide (HSD.out.trans ho1 (fun _ _ h => h)); clear ht1 ho1)
        | ((with_reducible refine step_call 24 _ _ rfl rfl #[ptr q, .int .i64 nm, .int .i64 xn] (by simp [Act.eval]) HE2.out (HC2.out W1 HT1.out HO1.out) ?_); rintro v2 W2 ⟨rfl, ht2, ho2⟩; have HT2 := hide ht2; have HO2 : Hid (Only (fun k => ¬ KK k) W0 W2) := hide (HO1.out.trans ho2 (fun _ _ h => h)); clear ht2 ho2))
    all_goals
      go_wp2
      go_ret
      exact Does.of HT2.out HKB.out HBW.out HB0.out HO2.out (by omega) (by omega)
  by_cases k4 : K = 4
  · subst k4
    obtain ⟨⟨D, c⟩, hD⟩ : ∃ r, r = removeD d nm := ⟨_, rfl⟩
    have HC1 : Hid (Calls Try.prog 25 #[ptr p, .int .i64 nm] W0.drew fun e w' => ∃ v', e = .returned v' ∧ (v' = .int .i64 c ∧ Two KK w' p q D d (N + 2) (T + 300) ∧ Only (fun k => ¬ KK k) W0.drew w')) := hide ((twoL (c := c) (d' := D) HTD.out (HKW.out _ HSD.out) (by omega) (by omega) (fun F hF hK => (remove_any nm HI.out.1 _ hF (by omega) (by omega)).mono (fun e w' hh => by
      have e1 : removeD d nm = (D, c) := hD.symm
      rw [e1] at hh
      obtain ⟨g0, F', g1, g2⟩ := hh
      exact ⟨g0, F', g1.mono (by omega) (by omega), g2⟩))).mono (fun e w' hh => ⟨_, hh.1, rfl, hh.2⟩))
    have HC2 : Hid (∀ W, Two KK W p q D d (N + 2) (T + 300) → Only (fun k => ¬ KK k) W0 W → Calls Try.prog 26 #[ptr q, .int .i64 nm] W fun e w' => ∃ v', e = .returned v' ∧ (v' = .int .i64 c ∧ Two KK w' p q D D (N + 4) (T + 600) ∧ Only (fun k => ¬ KK k) W w')) := hide (fun W hT hO => (twoR (c := c) (r' := D) hT (HKW.out _ hO) (by omega) (by omega) (fun G hG hK => (refRemove_any nm _ hG (by omega)).mono (fun e w' hh => by
      have e1 : removeD d nm = (D, c) := hD.symm
      rw [e1] at hh
      obtain ⟨g0, F', g1, g2⟩ := hh
      exact ⟨g0, F', g1.mono (by omega) (by omega), g2⟩))).mono (fun e w' hh => ⟨_, hh.1, rfl, hh.2⟩))
    have HE1 : Hid (∀ args w, (callFunc 25 args).run Try.prog w = .ok (.enter 25 args) w) := hide (enters_of Try.func25 (by kernel_rfl) rfl)
    have HE2 : Hid (∀ args w, (callFunc 26 args).run Try.prog w = .ok (.enter 26 args) w) := hide (enters_of Try.func26 (by kernel_rfl) rfl)
    have HS : Hid (∀ W, Only (fun k => ¬ KK k) W0 W → W.cell? ⟨w.heap.size, 1, none⟩ = some (.int .i64 nm)) := hide (fun W ho => (HCE.out W ho).1)
    clear hD c1 c2 c3 c4 HCE
    go_upto_region 18 with fail
    clear c0
    go_region_held2 (fun W => W.cell? ⟨w.heap.size, 1, none⟩ = some (.int .i64 nm))
      (first | (with_reducible exact HS.out _ HSD.out) | (with_reducible exact HS.out _ HO1.out) | (with_reducible exact HS.out _ HO2.out))
      (first
        | ((with_reducible refine step_call 25 _ _ rfl rfl #[ptr p, .int .i64 nm] (by simp [Act.eval]) HE1.out HC1.out ?_); rintro v1 W1 ⟨rfl, ht1, ho1⟩; have HT1 := hide ht1; have HO1 : Hid (Only (fun k => ¬ KK k) W0 W1) := hide (HSD.out.trans ho1 (fun _ _ h => h)); clear ht1 ho1)
        | ((with_reducible refine step_call 26 _ _ rfl rfl #[ptr q, .int .i64 nm] (by simp [Act.eval]) HE2.out (HC2.out W1 HT1.out HO1.out) ?_); rintro v2 W2 ⟨rfl, ht2, ho2⟩; have HT2 := hide ht2; have HO2 : Hid (Only (fun k => ¬ KK k) W0 W2) := hide (HO1.out.trans ho2 (fun _ _ h => h)); clear ht2 ho2))
    all_goals
      go_wp2
      go_ret
      exact Does.of HT2.out HKB.out HBW.out HB0.out HO2.out (by omega) (by omega)
  by_cases k5 : K = 5
  · subst k5
    obtain ⟨⟨D, c⟩, hD⟩ : ∃ r, r = syncDirD d := ⟨_, rfl⟩
    have HC1 : Hid (Calls Try.prog 16 #[ptr p] W0 fun e w' => e = .returned (.int .i64 c) ∧ Two KK w' p q D d (N + 2) (T + 300) ∧ Only (fun k => ¬ KK k) W0 w') := hide (twoL (c := c) (d' := D) HT0.out HKL.out (by omega) (by omega) (fun F hF hK => (syncDir_any _ hF).mono (fun e w' hh => by
      rw [← hD] at hh
      obtain ⟨g0, F', g1, g2⟩ := hh
      exact ⟨g0, F', g1.mono (by omega) (by omega), g2⟩)))
    have HC2 : Hid (∀ W, Two KK W p q D d (N + 2) (T + 300) → Only (fun k => ¬ KK k) W0 W → Calls Try.prog 27 #[ptr q] W fun e w' => e = .returned (.int .i64 c) ∧ Two KK w' p q D D (N + 4) (T + 600) ∧ Only (fun k => ¬ KK k) W w') := hide (fun W hT hO => twoR (c := c) (r' := D) hT (HKW.out _ hO) (by omega) (by omega) (fun G hG hK => (refSyncDir_any _ hG (by omega)).mono (fun e w' hh => by
      rw [← hD] at hh
      obtain ⟨g0, F', g1, g2⟩ := hh
      exact ⟨g0, F', g1.mono (by omega) (by omega), g2⟩)))
    clear hD
    go_wp2_with fail
    refine HC1.out.mono ?_
    rintro e W1 ⟨rfl, ht1, ho1⟩
    have HO1 := hide ho1
    have HC3 := hide (HC2.out W1 ht1 ho1)
    clear ht1 ho1 c0 c1 c2 c3 c4
    go_wp2_with fail
    refine HC3.out.mono ?_
    rintro e W2 ⟨rfl, ht2, ho2⟩
    have HT2 := hide ht2
    have HO2 := hide (HO1.out.trans ho2 (fun _ _ h => h))
    clear ht2 ho2
    go_wp2
    go_ret
    exact Does.of HT2.out HKB.out HBW.out HB0.out HO2.out (by omega) (by omega)
  by_cases k6 : K = 6
  · subst k6
    have HC1 : Hid (Calls Try.prog 28 #[ptr p, .int .i64 xn] W0 fun e w' => e = .returned (.tuple #[]) ∧ Two KK w' p q (cutD d xn) d N T ∧ Only (fun k => ¬ KK k) W0 w') := hide (by
      obtain ⟨F, G, g1, g2, g3, g4, g5⟩ := HT0.out
      refine (cutF_any xn HI.out.2 W0 g1).mono ?_
      rintro e w' ⟨he, hd, ho⟩
      exact two_left HKL.out (Nat.le_refl _) (Nat.le_refl _) g2 g3 g4 g5 he hd ho (fun _ hk => .inl hk))
    have HC2 : Hid (∀ W, Two KK W p q (cutD d xn) d N T → Only (fun k => ¬ KK k) W0 W → Calls Try.prog 29 #[ptr q, .int .i64 xn] W fun e w' => e = .returned (.tuple #[]) ∧ Two KK w' p q (cutD d xn) (cutD d xn) N T ∧ Only (fun k => ¬ KK k) W w') := hide (fun W hT hO => by
      obtain ⟨F, G, g1, g2, g3, g4, g5⟩ := hT
      refine (refCut_any xn HI.out.2 W g2).mono ?_
      rintro e w' ⟨he, hd, ho⟩
      exact two_right (HKW.out _ hO) (Nat.le_refl _) (Nat.le_refl _) g1 g3 g4 g5 he hd ho (fun _ hk => .inl hk))
    clear c1 c3 c4
    go_wp2_with fail
    refine HC1.out.mono ?_
    rintro e W1 ⟨rfl, ht1, ho1⟩
    have HO1 := hide ho1
    have HC3 := hide (HC2.out W1 ht1 ho1)
    have d2 := (HCE.out W1 ho1).2.1
    clear ht1 ho1 c0 c2
    go_wp2_with fail
    refine HC3.out.mono ?_
    rintro e W2 ⟨rfl, ht2, ho2⟩
    have HT2 := hide ht2
    have HO2 := hide (HO1.out.trans ho2 (fun _ _ h => h))
    clear ht2 ho2
    go_wp2
    go_ret
    exact Does.of HT2.out HKB.out HBW.out HB0.out HO2.out (by omega) (by omega)
  by_cases k7 : K = 7
  · subst k7
    have HC1 : Hid (Calls Try.prog 17 #[ptr p, .int .i64 xn, .slice ka kl.length kc] W0 fun e w' => e = .returned (.tuple #[]) ∧ Two KK w' p q (crashD d xn kl) d N T ∧ Only (fun k => ¬ KK k) W0 w') := hide (by
      obtain ⟨F, G, g1, g2, g3, g4, g5⟩ := HT0.out
      refine (crash_any xn _ kl W0 g1 (by omega) (by omega) (HRI.out W0 (Only.refl _ _)) (by
        rcases HOK.out F g3 with h | h
        · exact .inl h
        · exact .inr fun k hk => (h k hk).1) (by omega)).mono ?_
      rintro e w' ⟨he, hd, ho⟩
      exact two_left HKL.out (Nat.le_refl _) (Nat.le_refl _) g2 g3 g4 g5 he hd ho (fun _ hk => .inl hk))
    have HC2 : Hid (∀ W, Two KK W p q (crashD d xn kl) d N T → Only (fun k => ¬ KK k) W0 W → Calls Try.prog 30 #[ptr q, .int .i64 xn, .slice ka kl.length kc] W fun e w' => e = .returned (.tuple #[]) ∧ Two KK w' p q (crashD d xn kl) (crashD d xn kl) N T ∧ Only (fun k => ¬ KK k) W w') := hide (fun W hT hO => by
      obtain ⟨F, G, g1, g2, g3, g4, g5⟩ := hT
      refine (refCrash_any xn _ kl W g2 (by omega) (by omega) (HRI.out W hO) (by
        rcases HOK.out G g4 with h | h
        · exact .inl h
        · exact .inr fun k hk => ⟨(h k hk).1, Nat.lt_of_lt_of_le (h k hk).2 (Nat.le_trans HB0.out.size hO.size)⟩) (by omega)).mono ?_
      rintro e w' ⟨he, F', hd, ho, hf⟩
      exact two_right (HKW.out _ hO) (Nat.le_refl _) (Nat.le_refl _) g1 g3 g4 g5 he hd ho hf)
    clear c1 c3
    go_wp2_with fail
    refine HC1.out.mono ?_
    rintro e W1 ⟨rfl, ht1, ho1⟩
    have HO1 := hide ho1
    have HC3 := hide (HC2.out W1 ht1 ho1)
    have d2 := (HCE.out W1 ho1).2.1
    have d4 := (HCE.out W1 ho1).2.2.2
    clear ht1 ho1 c0 c2 c4
    go_wp2_with fail
    refine HC3.out.mono ?_
    rintro e W2 ⟨rfl, ht2, ho2⟩
    have HT2 := hide ht2
    have HO2 := hide (HO1.out.trans ho2 (fun _ _ h => h))
    clear ht2 ho2
    go_wp2
    go_ret
    exact Does.of HT2.out HKB.out HBW.out HB0.out HO2.out (by omega) (by omega)
  have z0 : (K == 0) = false := by simpa using k0
  have z1 : (K == 1) = false := by simpa using k1
  have z2 : (K == 2) = false := by simpa using k2
  have z3 : (K == 3) = false := by simpa using k3
  have z4 : (K == 4) = false := by simpa using k4
  have z5 : (K == 5) = false := by simpa using k5
  have z6 : (K == 6) = false := by simpa using k6
  have z7 : (K == 7) = false := by simpa using k7
  clear k0 k1 k2 k3 k4 k5 k6 k7 c1 c2 c3 c4
  go_wp2
  go_ret
  exact Does.of HT0.out HKB.out HBW.out HB0.out (Only.refl _ _) (by omega) (by omega)

end Go.Proofs.Ytfhgjnfichgdiaa
