/- The statements' own: how few, and whether the chapter's example holds. -/
import Derived.Test.YtedfacbngefhnaaPsimQ
import Derived.Test.YtedfacbngefhnaaPsimEvs
import Derived.Test.YtedfacbngefhnaaObjsFew
namespace Go.Proofs.Ytedfacbngefhnaa
open Go.RowKit Go.Maps

theorem EgM.weaken {K K' : Nat → Prop} {w : World} {eb : Nat} {e : Eg} {N : Nat} (h : EgM K w eb e N) (hK : ∀ k, K' k → K k) : EgM K' w eb e N := by
  obtain ⟨L, M, g, h1, h2, h3, h4, h5, h6⟩ := h
  exact ⟨L, M, g, h1, h2, h3, fun k hk a => h4 k hk (hK k a), fun k hk a => h5 k hk (hK k a), h6⟩

set_option maxRecDepth 100000 in
theorem fewV_any {w : World} {v : Value} {s : St} (hs : StV w v s) {vl : Value} {l : List EvP} (hl : RdV w vl l) :
    Calls Try.prog 20 #[v, vl] w fun r w' => r = .returned (.bool (decide ((s.L.length : Int) ≤ 300) && decide ((l.length : Int) ≤ 1500))) ∧ Below w.heap.size w w' := by
  have hs0 := id hs
  obtain ⟨vs, rfl, hr, hki, hei⟩ := hs
  obtain ⟨la, lc, rfl, hlc, hcm, -⟩ := hl
  have hml : (l.length : Int) ≤ 9223372036854775807 := by unfold maxLen at hcm; omega
  obtain ⟨sa, sn, sc, rfl⟩ : ∃ a n c, vs = .slice a n c := by
    obtain ⟨a, c, hv, _⟩ := hr
    exact ⟨a, _, c, hv⟩
  have HB : Hid (Below w.heap.size w (w.alloc (.cells #[.int .i64 s.kind, .slice sa sn sc, .bool s.shut, .int .i64 s.eng] 24))) := hide ((Below.refl _ _).alloc (Nat.le_refl _) _)
  have HF : Hid (∀ W, Below w.heap.size w W → Calls Try.prog 9 #[.agg #[.int .i64 s.kind, .slice sa sn sc, .bool s.shut, .int .i64 s.eng]] W fun e w' => e = .returned (.bool (decide ((s.L.length : Int) ≤ 300))) ∧ Below W.heap.size W w') := hide fun W hb => few_any _ s W (hs0.below hb (Nat.le_refl _))
  obtain ⟨F, hF⟩ : ∃ F, F = decide ((s.L.length : Int) ≤ 300) := ⟨_, rfl⟩
  rw [← hF] at HF ⊢
  clear hs0 hr hki hei hlc hcm hF
  go_enter Try.func20, Try.ntmps20
  go_wp2_with fail
  refine (HF.out _ HB.out).mono ?_
  rintro r W1 ⟨rfl, hb1⟩
  have HB1 := hide (HB.out.trans (hb1.mono HB.out.size))
  clear hb1
  cases F with
  | false =>
    go_wp2
    go_ret
    exact ⟨rfl, HB1.out⟩
  | true =>
    go_wp2
    go_ret
    exact ⟨by rfl, HB1.out⟩

/-- The chapter's example, step by step. -/
def awk : Nat → Eg
  | 0 => beginE (newEg ⟨0, [0], false, 0⟩ 2) 0 ⟨1, 5, 0⟩
  | i + 1 => goE (awk i) 0

theorem awk_busy : ∀ i, i < 5 → ((awk i).ps 0).nx ≠ .rest := by decide +kernel

theorem awk_n : ∀ i, i ≤ 5 → (awk i).n = 2 := by decide +kernel

theorem awk_rest : ((awk 5).ps 0).nx = .rest ∧ ((awk 5).ps 0).resp = 0 ∧ (awk 5).st.L = [5] ∧ (awk 5).st.kind = 0 := by decide +kernel

theorem awk_step {i : Nat} (hi : i < 5) : herlM.step (awk i) 0 = (awk (i + 1), 0, decide (i + 1 = 5)) := by
  have hb : herlM.isBusy (awk i) ((0 : Nat) : Int) = true := by rw [isBusy_nat (by rw [awk_n i (by omega)]; decide)]; exact decide_eq_true (awk_busy i hi)
  have hb' : herlM.isBusy (awk i) 0 = true := hb
  have hn : herlM.isBusy (goE (awk i) 0) ((0 : Nat) : Int) = decide (((awk (i + 1)).ps 0).nx ≠ .rest) := isBusy_nat (by show 0 < (awk (i + 1)).n; rw [awk_n (i + 1) (by omega)]; decide)
  have hn' : herlM.isBusy (herlM.go (awk i) (0 : Int).toNat) 0 = decide (((awk (i + 1)).ps 0).nx ≠ .rest) := hn
  unfold Mod.step
  rw [if_pos hb', hn']
  by_cases h : i + 1 = 5
  · rw [h, awk_rest.1]
    have : ((awk 5).ps 0).resp = 0 := awk_rest.2.1
    rw [← h] at this
    show (if decide (Nx.rest ≠ Nx.rest) = true then _ else (awk (i + 1), ((awk (i + 1)).ps 0).resp, true)) = _
    rw [this, h]
    rfl
  · rw [decide_eq_true (awk_busy (i + 1) (by omega)), decide_eq_false h]
    rfl

set_option maxRecDepth 100000 in
set_option maxHeartbeats 2000000 in
theorem awakeH_any (w : World) : Calls Try.prog 8 #[] w fun r w' => r = .returned (.bool true) ∧ Below w.heap.size w w' := by
  obtain ⟨B, hB⟩ : ∃ B, B = w.heap.size := ⟨_, rfl⟩
  rw [← hB]
  have HBE := hide hB
  have hb0 : Below w.heap.size w (w.alloc (.cells #[.int .i64 0] 3)) := (Below.refl _ _).alloc (Nat.le_refl _) _
  have hrd : RdI (w.alloc (.cells #[.int .i64 0] 3)) (.slice (some ⟨w.heap.size, 0, none⟩) 1 1) [0] := by
    refine ⟨_, 1, rfl, Nat.le_refl _, by unfold maxLen; omega, nofun, fun x hx => ?_, .inr ⟨w.heap.size, 0, rfl, fun j hj => ?_⟩⟩
    · obtain rfl := List.mem_singleton.1 hx
      exact ⟨by decide, by decide⟩
    · obtain rfl : j = 0 := by simpa using hj
      exact ((show Bk 3 _ w.heap.size #[.int .i64 0] from heap_alloc_new w _).cell 0 rfl).1
  have HN := hide (newE_any (s := ⟨0, [0], false, 0⟩) (v := .agg #[.int .i64 0, .slice (some ⟨w.heap.size, 0, none⟩) 1 1, .bool false, .int .i64 0]) ⟨_, rfl, hrd, ⟨by decide, by decide⟩, ⟨by decide, by decide⟩⟩ 2)
  have HB0 := hide hb0
  clear hrd hb0 hB
  go_enter Try.func8, Try.ntmps8
  go_wp2_with fail
  refine HN.out.mono ?_
  rintro r W1 ⟨hb1, hd⟩
  rw [if_pos (by decide)] at hd
  obtain ⟨eb, rfl, hm1⟩ := hd
  have hBW : Below B w W1 := by rw [HBE.out]; exact HB0.out.trans (hb1.mono HB0.out.size)
  have hle : B ≤ W1.heap.size := by have := hBW.size; rw [HBE.out] at *; omega
  have hm1' : EgM (fun k => k < B) W1 eb (newEg ⟨0, [0], false, 0⟩ 2) 0 := hm1.weaken fun k hk => by have := HB0.out.size; rw [HBE.out] at hk; omega
  have HI := hide (invoke_any hm1' (fun k hk => by omega) (by omega) 0 ⟨1, 5, 0⟩)
  have HB1 := hide hBW
  clear hb1 hm1 hm1' hBW hle HN
  unfold opV at HI
  go_wp2_with fail
  refine HI.out.mono ?_
  rintro r W2 ⟨hr, hm2, ho2⟩
  have hinv : herlM.invoke (newEg ⟨0, [0], false, 0⟩ 2) 0 ⟨1, 5, 0⟩ = (awk 0, 0) := by
    unfold Mod.invoke
    rw [if_neg (by decide +kernel), if_neg (by decide +kernel)]
    rfl
  rw [hinv] at hr hm2
  subst hr
  have hs1 := HB1.out.size
  have HB2 : Hid (Below B w W2) := hide (HB1.out.trans (ho2.below (by rw [HBE.out]; exact hs1) fun k hk => Nat.le_of_not_lt hk))
  have HM2 := hide hm2
  clear hm2 ho2 hinv HI hs1
  go_wp2
  go_loopw [4, 5, 6] (fun vn vd vi wr => ∃ k : Nat, vn = .int .i64 0 ∧ vd = .bool (decide (k = 5)) ∧ vi = .int .i64 (k : Int) ∧ k ≤ 5 ∧ Hid (EgM (fun k => k < B) wr eb (awk k) (2 + 2 * k)) ∧ Hid (Below B w wr)) (fun _ _ vi _ => 5 - (intOf vi).toNat)
  case atStart => exact ⟨0, rfl, rfl, rfl, by omega, HM2, HB2⟩
  case round =>
    obtain ⟨k, rfl, rfl, rfl, hk, HM, HB⟩ := hrel
    clear HM2 HB2 HB1
    have hsz : B ≤ wr.heap.size := by have := HB.out.size; have := HBE.out; omega
    by_cases h12 : k = 5
    case neg =>
      have hd : decide (k = 5) = false := decide_eq_false h12
      have hlt : (k : Int) < 500 := by omega
      have HS := hide (step_anyE HM.out (fun k hk => by omega) (by omega) 0)
      unfold Stept at HS
      rw [awk_step (by omega)] at HS
      have HK12 : Hid (k < 5) := hide (by omega)
      rw [hd]
      clear hd h12
      go_wp2_with fail
      refine HS.out.mono ?_
      rintro r W3 ⟨rfl, hm3, ho3⟩
      have HM3 := hide hm3
      have HB3 : Hid (Below B w W3) := hide (HB.out.trans (ho3.below hsz fun k hk => Nat.le_of_not_lt hk))
      obtain ⟨D, hD⟩ : ∃ D, D = decide (k + 1 = 5) := ⟨_, rfl⟩
      rw [← hD]
      have HD := hide hD
      clear hm3 ho3 HS hD
      go_wp2
      go_roundw
      case rel => exact ⟨k + 1, rfl, by rw [HD.out], by go_num, by have := HK12.out; omega, by have h := HM3.out; exact h, HB3⟩
      case measure => have := HK12.out; simp [intOf]; omega
    subst h12
    have hd : decide ((5 : Nat) = 5) = true := rfl
    rw [hd]
    have HS := hide (state_any HM.out)
    rw [awk_rest.2.2.1] at HS
    generalize (awk 5).st.kind = k0 at HS
    generalize (awk 5).st.shut = k1 at HS
    generalize (awk 5).st.eng = k2 at HS
    go_wp2_with fail
    refine HS.out.mono ?_
    rintro r W3 ⟨v3, rfl, ho3, hb3⟩
    obtain ⟨a3, c3, rfl⟩ := ho3.shape
    obtain ⟨W4, hW4⟩ : ∃ W4, W4 = W3.alloc (.cells #[.int .i64 k0, .slice a3 ([5] : List Int).length c3, .bool k1, .int .i64 k2] 24) := ⟨_, rfl⟩
    have hx : Bk 24 W4 W3.heap.size #[.int .i64 k0, .slice a3 ([5] : List Int).length c3, .bool k1, .int .i64 k2] := by rw [hW4]; exact heap_alloc_new _ _
    have hb4 : Below W3.heap.size W3 W4 := by rw [hW4]; exact (Below.refl _ _).alloc (Nat.le_refl _) _
    have hB4 : Below B w W4 := HB.out.trans ((hb3.mono hsz).trans (hb4.mono (by have := hb3.size; omega)))
    have hr : RdI W4 (.slice a3 ([5] : List Int).length c3) [5] := (ho3.rd (by intro x hx; obtain rfl := List.mem_singleton.1 hx; exact ⟨by decide, by decide⟩)).below hb4 (Nat.le_refl _)
    obtain ⟨xb, xo, xc, hxv, -, hxc⟩ := hr.filled (by simp)
    simp only [Value.slice.injEq, true_and] at hxv
    obtain ⟨rfl, rfl⟩ := hxv
    have x0 : W4.cell? ⟨xb, xo, none⟩ = some (.int .i64 5) := hxc 0 (by simp)
    obtain ⟨s1, -⟩ := hx.cell 1 rfl
    have HB4 := hide hB4
    clear hr hxc hb4 hB4 ho3 hb3 HS HM hx
    go_upto_region 12 with fail
    simp only [List.length_cons, List.length_nil] at hW4 s1 ⊢
    rw [← hW4]
    clear hW4
    go_wp2
    go_ret
    exact ⟨rfl, HB4.out⟩

end Go.Proofs.Ytedfacbngefhnaa
