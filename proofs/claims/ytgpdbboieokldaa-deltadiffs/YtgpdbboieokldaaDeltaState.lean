/- Contract of delta: changeState. -/
import Derived.Test.YtgpdbboieokldaaDeltaCut
import Derived.Test.YtgpdbboieokldaaIntShelf
import Derived.Test.YtgpdbboieokldaaStepCall
import Derived.Deep.RegionHeld2
namespace Go.Proofs.Ytgpdbboieokldaa
open Go.RowKit

theorem RdI.capS {w : World} {ao : Option Addr} {n cap : Nat} {l : List Int} (h : RdI w (.slice ao n cap) l) : l.length ≤ cap := by
  obtain ⟨ao', cap', hv, h1, _⟩ := h
  simp only [Value.slice.injEq] at hv
  omega

/-- The numbers behind a delta. -/
def cutL (L : List Int) (d : Delt) : List Int := L.take d.ahead.toNat ++ (d.mid ++ L.drop (L.length - d.behind.toNat))

theorem butFour (w : World) (R : Nat) (x0 x1 x2 x3 : Value) : But R R w ((((w.setCell ⟨R, 0, none⟩ x0).setCell ⟨R, 1, none⟩ x1).setCell ⟨R, 2, none⟩ x2).setCell ⟨R, 3, none⟩ x3) :=
  ((((But.refl R R w).set _ _ (.inl rfl) _).set _ _ (.inl rfl) _).set _ _ (.inl rfl) _).set _ _ (.inl rfl) _

theorem Bx.all {w : World} {b : Nat} {x0 x1 x2 x3 : Value} (h : Bx w b #[x0, x1, x2, x3]) :
    (w.cell? ⟨b, 0, none⟩ = some x0 ∧ w.cell? ⟨b, 1, none⟩ = some x1 ∧ w.cell? ⟨b, 2, none⟩ = some x2 ∧ w.cell? ⟨b, 3, none⟩ = some x3) ∧
    w.frozen? ⟨b, 0, none⟩ = false ∧ w.frozen? ⟨b, 1, none⟩ = false ∧ w.frozen? ⟨b, 2, none⟩ = false ∧ w.frozen? ⟨b, 3, none⟩ = false :=
  ⟨⟨(h.cell 0).1, (h.cell 1).1, (h.cell 2).1, (h.cell 3).1⟩, (h.cell 0).2, (h.cell 1).2, (h.cell 2).2, (h.cell 3).2⟩

set_option maxRecDepth 100000 in
set_option maxHeartbeats 8000000 in
theorem changeState_any (vs : Value) (s : St) (vd : Value) (d : Delt) (w : World) (hs : StV w vs s) (hd : DlV w vd d) (hc : CutD d (s.L.length : Int)) (hlim : s.L.length ≤ 1000) (hlim2 : d.mid.length ≤ 100000) :
    Calls Try.prog 32 #[vs, vd] w fun e w' => ∃ vl, e = .returned (.agg #[.int .i64 s.kind, vl, .bool d.shut, .int .i64 d.eng]) ∧ RdI w' vl (cutL s.L d) ∧ (∀ k, vl.ownBlock = some k → w.heap.size ≤ k) ∧ Below w.heap.size w w' := by
  obtain ⟨vl, rfl, hl, hk, he⟩ := hs
  obtain ⟨la, lc, hv⟩ := hl.shape
  subst hv
  obtain ⟨ma, mc, ta, tc, rfl, hm, -⟩ := hd.shape
  obtain ⟨-, -, -, -, -, -, -, -, -, -⟩ := hd
  obtain ⟨hc0, hc1, hc2⟩ := hc
  obtain ⟨A, hA⟩ : ∃ A : Nat, (A : Int) = d.ahead := ⟨d.ahead.toNat, by omega⟩
  obtain ⟨B, hB⟩ : ∃ B : Nat, (B : Int) = d.behind := ⟨d.behind.toNat, by omega⟩
  obtain ⟨T, hT⟩ : ∃ T, T = s.L.take A := ⟨_, rfl⟩
  obtain ⟨E, hE⟩ : ∃ E, E = s.L.drop (s.L.length - B) := ⟨_, rfl⟩
  have eC : cutL s.L d = T ++ (d.mid ++ E) := by unfold cutL; rw [hT, hE, ← hA, ← hB, Int.toNat_natCast, Int.toNat_natCast]
  have hEl : E.length = B := by rw [hE, List.length_drop]; omega
  have hTl : T.length = A := by rw [hT, List.length_take]; omega
  obtain ⟨xe, xf, hcutE, -, hrdE⟩ := cutI_from la s.L lc hl.capS (s.L.length - B) (by omega) E hE
  obtain ⟨xt, xu, hcutT, hrdT⟩ := cutI_upto la s.L lc hl.capS A (by omega) T hT
  have eE : ((s.L.length - B : Nat) : Int) = (s.L.length : Int) - d.behind := by omega
  rw [eE] at hcutE
  rw [hA] at hcutT
  have hi64 : ∀ x ∈ T ++ (d.mid ++ E), I64 x := fun x hx => by
    rcases List.mem_append.1 hx with h | h
    · rw [hT] at h; exact hl.i64 x (List.mem_of_mem_take h)
    · rcases List.mem_append.1 h with h | h
      · exact hm.i64 x h
      · rw [hE] at h; exact hl.i64 x (List.mem_of_mem_drop h)
  obtain ⟨W0, hW0⟩ : ∃ W0, W0 = ((w.alloc (.cells #[.int .i64 s.kind, .slice la s.L.length lc, .bool s.shut, .int .i64 s.eng] 24)).alloc (.cells #[.int .i64 d.frm, .int .i64 d.upto, .int .i64 d.ahead, .int .i64 d.behind, .slice ma d.mid.length mc, .bool d.shut, .int .i64 d.eng, .slice ta d.tab.length tc] 31)).alloc (.cells #[.int .i64 0, .slice none 0 0, .bool false, .int .i64 0] 24) := ⟨_, rfl⟩
  have h3 := new_three w (.cells #[.int .i64 s.kind, .slice la s.L.length lc, .bool s.shut, .int .i64 s.eng] 24) (.cells #[.int .i64 d.frm, .int .i64 d.upto, .int .i64 d.ahead, .int .i64 d.behind, .slice ma d.mid.length mc, .bool d.shut, .int .i64 d.eng, .slice ta d.tab.length tc] 31) (.cells #[.int .i64 0, .slice none 0 0, .bool false, .int .i64 0] 24)
  rw [← hW0] at h3
  obtain ⟨hx, hy, hz⟩ := h3
  have hB0 : Below w.heap.size w W0 := by rw [hW0]; exact below_three w _ _ _
  have HB0 := hide hB0
  have HX0 : Hid (Bx W0 w.heap.size #[.int .i64 s.kind, .slice la s.L.length lc, .bool s.shut, .int .i64 s.eng]) := hide hx
  have HY0 : Hid (Bd W0 (w.heap.size + 1) #[.int .i64 d.frm, .int .i64 d.upto, .int .i64 d.ahead, .int .i64 d.behind, .slice ma d.mid.length mc, .bool d.shut, .int .i64 d.eng, .slice ta d.tab.length tc]) := hide hy
  have HZ0 : Hid (Bx W0 (w.heap.size + 1 + 1) #[.int .i64 0, .slice none 0 0, .bool false, .int .i64 0]) := hide hz
  have HW0 := hide hW0
  have HCC : Hid (Calls Try.prog 59 #[.slice (some ⟨W0.heap.size, 0, none⟩) 3 3] (W0.alloc (.cells #[.slice xt T.length xu, .slice ma d.mid.length mc, .slice xe E.length xf] 22)).drew fun e w' => ∃ v', e = .returned v' ∧ OwnI w' W0.heap.size v' (T ++ (d.mid ++ E)) ∧ Below W0.heap.size W0.drew w') := hide (by
    have h := concat3I W0.drew W0.heap.size rfl (.slice xt T.length xu) (.slice ma d.mid.length mc) (.slice xe E.length xf) T d.mid E (hrdT _ (hl.below hB0.drew (Nat.le_refl _))) (hm.below hB0.drew (Nat.le_refl _)) (hrdE _ (hl.below hB0.drew (Nat.le_refl _))) (by omega)
    exact h)
  rw [eC]
  have HI := hide hi64
  have hwr : IntKind.i64.wrap ((s.L.length : Int) - d.behind) = (s.L.length : Int) - d.behind := i64wrap_in _ (by omega) (by omega)
  have hsl : (s.L.length : Int) ≤ 1000 := by omega
  have hbl : d.behind ≤ (s.L.length : Int) := by omega
  generalize T ++ (d.mid ++ E) = CL at *
  obtain ⟨kind, L, shut, eng⟩ := s
  obtain ⟨fr, up, ah, bh, mid, sh, en, tab⟩ := d
  dsimp only at *
  clear hx hy hz hB0 hW0 hrdE hrdT hm hl hk he hi64 hA hB hT hE hEl hTl eC eE hc0 hc1 hc2 hlim hlim2
  generalize T.length = TL at *
  generalize E.length = EL at *
  obtain ⟨⟨p0, p1, p2, p3⟩, -⟩ := HX0.out.all
  obtain ⟨⟨q0, q1, q2, q3, q4, q5, q6, q7⟩, -⟩ := HY0.out.all
  have HK : Hid (∀ W, Below W0.heap.size W0 W → W.cell? ⟨w.heap.size, 0, none⟩ = some (.int .i64 kind) ∧ W.cell? ⟨w.heap.size, 1, none⟩ = some (.slice la L.length lc) ∧ W.cell? ⟨w.heap.size + 1, 2, none⟩ = some (.int .i64 ah) ∧ W.cell? ⟨w.heap.size + 1, 4, none⟩ = some (.slice ma mid.length mc) ∧ W.cell? ⟨w.heap.size + 1, 5, none⟩ = some (.bool sh) ∧ W.cell? ⟨w.heap.size + 1, 6, none⟩ = some (.int .i64 en)) := hide (fun W h => by
    have h1 := (HX0.out.below h (Nat.le_refl _)).all.1
    have h2 := (HY0.out.below h (Nat.le_refl _)).all.1
    exact ⟨h1.1, h1.2.1, h2.2.2.1, h2.2.2.2.2.1, h2.2.2.2.2.2.1, h2.2.2.2.2.2.2.1⟩)
  have HK2 : Hid (∀ (W : World) (x0 x1 x2 x3 : Value), Below W0.heap.size W0 W → (fun W : World => W.cell? ⟨w.heap.size, 0, none⟩ = some (.int .i64 kind) ∧ W.cell? ⟨w.heap.size, 1, none⟩ = some (.slice la L.length lc) ∧ W.cell? ⟨w.heap.size + 1, 2, none⟩ = some (.int .i64 ah) ∧ W.cell? ⟨w.heap.size + 1, 4, none⟩ = some (.slice ma mid.length mc) ∧ W.cell? ⟨w.heap.size + 1, 5, none⟩ = some (.bool sh) ∧ W.cell? ⟨w.heap.size + 1, 6, none⟩ = some (.int .i64 en)) ((((W.setCell ⟨w.heap.size + 1 + 1, 0, none⟩ x0).setCell ⟨w.heap.size + 1 + 1, 1, none⟩ x1).setCell ⟨w.heap.size + 1 + 1, 2, none⟩ x2).setCell ⟨w.heap.size + 1 + 1, 3, none⟩ x3)) := hide (fun W x0 x1 x2 x3 h => by
    have hb := butFour W (w.heap.size + 1 + 1) x0 x1 x2 x3
    have hx := HX0.out.below h (Nat.le_refl _)
    have hy := HY0.out.below h (Nat.le_refl _)
    have h1 : Bx ((((W.setCell ⟨w.heap.size + 1 + 1, 0, none⟩ x0).setCell ⟨w.heap.size + 1 + 1, 1, none⟩ x1).setCell ⟨w.heap.size + 1 + 1, 2, none⟩ x2).setCell ⟨w.heap.size + 1 + 1, 3, none⟩ x3) w.heap.size _ := (hb.block w.heap.size hx.lt (by omega) (by omega)).trans hx
    have h2 : Bd ((((W.setCell ⟨w.heap.size + 1 + 1, 0, none⟩ x0).setCell ⟨w.heap.size + 1 + 1, 1, none⟩ x1).setCell ⟨w.heap.size + 1 + 1, 2, none⟩ x2).setCell ⟨w.heap.size + 1 + 1, 3, none⟩ x3) (w.heap.size + 1) _ := (hb.block (w.heap.size + 1) hy.lt (by omega) (by omega)).trans hy
    have h1 := h1.all.1
    have h2 := h2.all.1
    exact ⟨h1.1, h1.2.1, h2.2.2.1, h2.2.2.2.2.1, h2.2.2.2.2.2.1, h2.2.2.2.2.2.2.1⟩)
  have HZK : Hid (∀ W, Below W0.heap.size W0 W → Bx W (w.heap.size + 1 + 1) #[.int .i64 0, .slice none 0 0, .bool false, .int .i64 0]) := hide (fun W h => HZ0.out.below h (Nat.le_refl _))
  have HS0 : Hid (Below W0.heap.size W0 W0.drew) := hide ((Below.refl _ _).drew)
  have HS1 : Hid (∀ X, Below W0.heap.size W0 (W0.alloc X).drew) := hide (fun X => ((Below.refl _ _).alloc (Nat.le_refl _) X).drew)
  have HW : Hid (∀ W, Below W0.heap.size W0 W → Below w.heap.size w W) := hide (fun W h => HB0.out.trans (h.mono HB0.out.size))
  have hZlt := HZ0.out.lt
  have HE1 : Hid (∀ args w, (callFunc 59 args).run Try.prog w = .ok (.enter 59 args) w) := hide (enters_of Try.func59 (by kernel_rfl) rfl)
  go_enter Try.func32, Try.ntmps32
  go_upto_region 1 with fail
  rw [← HW0.out]
  clear HW0
  go_upto_region 2 with fail
  clear p0 p1 p2 p3 q0 q1 q2 q3 q4 q5 q6 q7
  go_region_held2 (fun W => W.cell? ⟨w.heap.size, 0, none⟩ = some (.int .i64 kind) ∧ W.cell? ⟨w.heap.size, 1, none⟩ = some (.slice la L.length lc) ∧ W.cell? ⟨w.heap.size + 1, 2, none⟩ = some (.int .i64 ah) ∧ W.cell? ⟨w.heap.size + 1, 4, none⟩ = some (.slice ma mid.length mc) ∧ W.cell? ⟨w.heap.size + 1, 5, none⟩ = some (.bool sh) ∧ W.cell? ⟨w.heap.size + 1, 6, none⟩ = some (.int .i64 en))
    (first | (with_reducible exact HK.out _ HS0.out) | (with_reducible exact HK.out _ (HS1.out _)) | (with_reducible exact HK.out _ hbk1) | (exact HK2.out W1 _ _ _ _ hbk1))
    (first
      | ((with_reducible refine step_call 59 _ _ rfl rfl #[.slice (some ⟨W0.heap.size, 0, none⟩) 3 3] (by simp [Act.eval]) HE1.out HCC.out ?_); rintro v1 W1 ⟨ho1, hb1⟩; have hbk1 : Below W0.heap.size W0 W1 := HS0.out.trans hb1; have HO1 := hide (ho1.rd HI.out); have HF1 := hide (show ∀ k, v1.ownBlock = some k → w.heap.size + 1 + 1 < k from fun k hk => Nat.lt_of_lt_of_le hZlt (ho1.fresh k hk)); obtain ⟨a1, c1, hv⟩ := ho1.shape; subst hv; obtain ⟨⟨z0, z1, z2, z3⟩, y0, y1, y2, y3⟩ := (HZK.out _ hbk1).all; clear ho1 hb1))
  all_goals
    go_wp2
    refine bodyPost_ret (v := .agg #[.int .i64 kind, .slice a1 CL.length c1, .bool sh, .int .i64 en]) (by simp [results, Try.results32, go_sem, z0, z1, z2, z3]) rfl ?_
    have hbt := butFour W1 (w.heap.size + 1 + 1) (.int .i64 kind) (.slice a1 CL.length c1) (.bool sh) (.int .i64 en)
    exact ⟨_, rfl, HO1.out.but hbt (.inr fun k hk => by have := HF1.out k hk; omega), (fun k hk => by have := HF1.out k hk; omega), belowFour (HW.out _ hbk1) _ (by omega) _ _ _ _⟩

end Go.Proofs.Ytgpdbboieokldaa
