/- Proved: for all numbers the law ObjsOrder answers true (and the call leaves all older memory as it was). No condition. -/
import Derived.Test.YtclankoffcfkfaaObjsTwo
import Derived.OpenShut
import Derived.ChangeOld
namespace Go.Proofs.Ytclankoffcfkfaa.objsOrder
open Go.ChangeShapes Go.WideShapes Go.ChangeAt Go.RowKit

/-- What a step that makes new numbers answers. -/
def Fresh (W : World) (kind : Int) (n : Nat) (L : List Int) (r : Int) (e : Ending) (w' : World) : Prop :=
  ∃ ao cap, e = .returned (.tuple #[.agg #[.int .i64 kind, .slice ao n cap, .bool false, .int .i64 0], .int .i64 r]) ∧ RdI w' (.slice ao n cap) L ∧ (∀ b, (Value.slice ao n cap).ownBlock = some b → W.heap.size ≤ b) ∧ Below W.heap.size W w'

theorem fresh_of {W : World} {vl : Value} {L L' : List Int} {kind r : Int} {e : Ending} {w' : World} (h : Stepped W vl L (⟨kind, L', false, 0⟩, r) e w') (hne : L' ≠ L) (n : Nat) (hn : L'.length = n) : Fresh W kind n L' r e w' := by
  obtain ⟨v', he, hr, _, _, hd, hb⟩ := h
  rcases hd with ⟨_, hl⟩ | hd
  · exact absurd hl hne
  · have hr' := hr
    obtain ⟨ao, cap, rfl, _⟩ := hr
    subst hn
    exact ⟨ao, cap, he, hr', hd, hb⟩

theorem take_snoc (l : List Int) (k : Nat) (hk : k < l.length) : l.take k ++ [l.getD k 0] = l.take (k + 1) := by
  rw [List.take_add_one]
  simp [List.getD, hk]

set_option maxRecDepth 100000 in
set_option maxHeartbeats 8000000 in
theorem walk (v : Value) (l : List Int) (w : World) (hr : RdI w v l) :
    Calls Try.prog 8 #[v] w fun e w' => e = .returned (.bool true) ∧ Below w.heap.size w w' := by
  have HA := hide' (fun w => awakeO_any w)
  have HR := hide' hr
  obtain ⟨ao, cap, rfl, hlc, hcm, -, -, hao⟩ := hr
  have hml : (l.length : Int) ≤ 9223372036854775807 := by unfold maxLen at hcm; omega
  have HAO := hide' hao
  have HS0 : Hid (∀ k : Int, k = 2 ∨ k = 3 → ∀ w, Calls Try.prog 14 #[.int .i64 k] w fun e w' => ∃ ao cap, e = .returned (.agg #[.int .i64 k, .slice ao 0 cap, .bool false, .int .i64 0]) ∧ RdI w' (.slice ao 0 cap) [] ∧ Below w.heap.size w w') := fun k hk w => by
    refine (start_any k w).mono ?_
    rintro e w' ⟨v', rfl, ⟨vl, rfl, hr, _, _⟩, hb⟩
    have e : startS k = ⟨k, [], false, 0⟩ := by
      unfold startS
      rw [if_neg (by omega), if_neg (by omega)]
    rw [e] at hr ⊢
    have hr' := hr
    obtain ⟨ao, cap, rfl, _⟩ := hr
    exact ⟨ao, cap, rfl, hr', hb⟩
  have HQ0 : Hid (∀ w, Calls Try.prog 14 #[.int .i64 2] w fun e w' => ∃ ao cap, e = .returned (.agg #[.int .i64 2, .slice ao 0 cap, .bool false, .int .i64 0]) ∧ RdI w' (.slice ao 0 cap) [] ∧ Below w.heap.size w w') := HS0.out 2 (.inl rfl)
  have HK0 : Hid (∀ w, Calls Try.prog 14 #[.int .i64 3] w fun e w' => ∃ ao cap, e = .returned (.agg #[.int .i64 3, .slice ao 0 cap, .bool false, .int .i64 0]) ∧ RdI w' (.slice ao 0 cap) [] ∧ Below w.heap.size w w') := HS0.out 3 (.inr rfl)
  have HST := hide' (fun w1 v1 s1 o1 (h : StV w1 v1 s1) hk hl => step_plain v1 s1 o1 w1 h hk hl)
  clear hao hlc hcm HS0
  go_enter Try.func8, Try.ntmps8
  go_wp2_with fail
  refine (HA.out _).mono ?_
  rintro e w1 ⟨rfl, hb1⟩
  have HB1 := hide' hb1
  have hs1 := hb1.size
  clear hb1 HA
  by_cases hl : (l.length : Int) ≤ 64
  · go_wp2_with fail
    refine (HQ0.out _).mono ?_
    rintro e wQ ⟨aq, cq, rfl, hrq, hbq⟩
    have hsq := hbq.size
    have HRq := hide' hrq
    have HBq := hide' (HB1.out.trans (hbq.mono hs1))
    clear hrq hbq HQ0
    go_wp2_with fail
    refine (HK0.out _).mono ?_
    rintro e wS ⟨az, cz, rfl, hrs, hbs⟩
    have hss : wQ.heap.size + 1 ≤ wS.heap.size := by have h := hbs.size; simpa using h
    have hbs' : Below wQ.heap.size wQ wS := ((Below.refl _ _).alloc (Nat.le_refl _) _).trans (hbs.mono (by simp))
    have HAT : Hid (TwoAt w wQ.heap.size wS.heap.size (wS.alloc (.cells #[.int .i64 3, .slice az 0 cz, .bool false, .int .i64 0] 24)) (.slice aq 0 cq) [] (.slice az 0 cz) []) :=
      ⟨by omega, by omega, by omega, (Below.heap_alloc _ _ _ (by omega)).trans ((hbs.block _ (by simp)).trans (heap_alloc_new wQ _)), heap_alloc_new wS _, (HRq.out.below hbs' (Nat.le_refl _)).below ((Below.refl _ _).alloc (Nat.le_refl _) _) (Nat.le_refl _), hrs.below ((Below.refl _ _).alloc (Nat.le_refl _) _) (Nat.le_refl _), (HBq.out.trans (hbs'.mono (by omega))).alloc (by omega) _⟩
    clear hrs hbs hbs' HRq HBq HK0
    go_wp2
    generalize wQ.heap.size = B at *
    generalize wS.heap.size = C at *
    go_loopw [6] (fun i wr => ∃ (k : Nat) (vq vs : Value), i = .int .i64 (k : Int) ∧ k ≤ l.length ∧ Hid (∀ x ∈ l.take k, -1099511627776 ≤ x ∧ x ≤ 1099511627776) ∧ Hid (TwoAt w B C wr vq (l.take k) vs (l.take k))) (fun i _ => l.length - (intOf i).toNat)
    case atStart => exact ⟨0, _, _, rfl, Nat.zero_le _, fun x hx => by simp at hx, HAT⟩
    case round =>
      obtain ⟨k, vq, vs, rfl, hkl, hin, hat⟩ := hrel
      have lB := hat.out.boxB.lt
      have lC := hat.out.boxC.lt
      have gB := hat.out.oldB
      have gC := hat.out.oldC
      have hBC := hat.out.ne
      have hlt0 : (l.take k).length = k := by simp; omega
      have HRQ : Hid (RdI wr vq (l.take k)) := hat.out.rdq
      have HRS : Hid (RdI wr vs (l.take k)) := hat.out.rds
      obtain ⟨aq, cq, hvq, -⟩ := id hat.out.rdq
      obtain ⟨as', cs', hvs, -⟩ := id hat.out.rds
      rw [hlt0] at hvq hvs
      subst hvq hvs
      have HBXB := hide' hat.out.boxB
      have HBXC := hide' hat.out.boxC
      have HBL := hide' hat.out.below
      by_cases hlt : k < l.length
      · rcases HAO.out with hao | ⟨b0, off, rfl, hc⟩
        · subst hao; simp at hlt
        have hb0 : b0 < w.heap.size := World.block_lt_of_cell? w ⟨b0, off + k, none⟩ (hc k hlt)
        have HCK : Hid (∀ W, Below w.heap.size w W → W.cell? ⟨b0, off + k, none⟩ = some (.int .i64 (l.getD k 0))) := fun W hW => by
          rw [hW.cell (p := ⟨b0, off + k, none⟩) hb0]; exact hc k hlt
        have o0 := HCK.out wr hat.out.below
        have HSN := hide' (take_snoc l k hlt)
        have HLN : Hid ((l.take (k + 1)).length = k + 1) := hide' (by simp; omega)
        obtain ⟨x, hx⟩ : ∃ x, x = l.getD k 0 := ⟨_, rfl⟩
        rw [← hx] at HCK o0 HSN
        have HX := hide' hx
        clear hx
        have hk0 : (0 : Int) ≤ (k : Int) := by omega
        have hkI : (k : Int) < (l.length : Int) := by omega
        clear hc
        by_cases hx1 : x ≤ 1099511627776
        · by_cases hx0 : -1099511627776 ≤ x
          · have HPU : Hid (∀ kd : Int, kd = 2 ∨ kd = 3 → ∀ W a c, RdI W (.slice a k c) (l.take k) → Calls Try.prog 11 #[.agg #[.int .i64 kd, .slice a k c, .bool false, .int .i64 0], .agg #[.int .i64 3, .int .i64 x, .int .i64 0]] W fun e w' => Fresh W kd (k + 1) (l.take (k + 1)) ((k : Int) + 1) e w') := fun kd hkd W a c hr => by
              have hkI : I64 kd := i64_small (by omega) (by omega)
              have h := HST.out W (.agg #[.int .i64 kd, .slice a k c, .bool false, .int .i64 0]) ⟨kd, l.take k, false, 0⟩ ⟨3, x, 0⟩ ⟨_, rfl, hr, hkI, i64_0⟩ (by show kd ≠ 4; omega) (by show (l.take k).length ≤ 1000000; rw [hlt0]; omega)
              rw [push_is kd hkd (l.take k) (by rw [hlt0]; omega) hin.out x hx0 hx1, HSN.out, hlt0] at h
              refine h.mono (fun e w' hh => fresh_of hh (fun e => ?_) (k + 1) HLN.out)
              have := congrArg List.length e
              rw [HLN.out, hlt0] at this
              omega
            have HPQ : Hid (∀ W, Below wr.heap.size wr W → Calls Try.prog 11 #[.agg #[.int .i64 2, .slice aq k cq, .bool false, .int .i64 0], .agg #[.int .i64 3, .int .i64 x, .int .i64 0]] W fun e w' => Fresh W 2 (k + 1) (l.take (k + 1)) ((k : Int) + 1) e w') := fun W hW => HPU.out 2 (.inl rfl) W aq cq (HRQ.out.below hW (Nat.le_refl _))
            have HNX := hide' (fun (W : World) hb (v2 v3 : Value) hq hs h1 h2 => hat.out.next (W := W) hb (v2 := v2) (v3 := v3) (P' := l.take (k + 1)) (Q' := l.take (k + 1)) hq hs h1 h2)
            have HIN : Hid (∀ y ∈ l.take (k + 1), -1099511627776 ≤ y ∧ y ≤ 1099511627776) := fun y hy => by
              rw [← HSN.out] at hy
              rcases List.mem_append.1 hy with hy | hy
              · exact hin.out y hy
              · rw [List.mem_singleton.1 hy]; exact ⟨hx0, hx1⟩
            have HBWA := HBL
            obtain ⟨q0, q0'⟩ := HBXB.out.cell 0
            obtain ⟨q1, q1'⟩ := HBXB.out.cell 1
            obtain ⟨q2, q2'⟩ := HBXB.out.cell 2
            obtain ⟨q3, q3'⟩ := HBXB.out.cell 3
            have nb : b0 ≠ wr.heap.size := by omega
            have nb' : wr.heap.size ≠ b0 := by omega
            have nB : B ≠ wr.heap.size := by omega
            have nB' : wr.heap.size ≠ B := by omega
            clear hat hlt0
            go_wp2
            go_region_held (fun w' => w'.cell? ⟨B, 0, none⟩ = some (.int .i64 2) ∧ w'.cell? ⟨B, 1, none⟩ = some (.slice aq k cq) ∧ w'.cell? ⟨B, 2, none⟩ = some (.bool false) ∧ w'.cell? ⟨B, 3, none⟩ = some (.int .i64 0) ∧ w'.cell? ⟨b0, off + k, none⟩ = some (.int .i64 x)) (go_keep)
              (first
                | (go_at_call 11; refine (HPQ.out wr.drew ((Below.refl _ _).drew)).mono ?_; rintro e wcA ⟨aA, cA, rfl, hr2, hf2, hb2⟩; have hb2' : Below wr.heap.size wr wcA := ((Below.refl _ _).drew).trans hb2; have hs2 : wr.heap.size ≤ wcA.heap.size := hb2.size; have l0 : B < wcA.heap.size := (by omega); have l1 : b0 < wcA.heap.size := (by omega); have hbx2 := HBXB.out.below hb2' (Nat.le_refl _); have t0 := HCK.out wcA (HBWA.out.trans (hb2'.mono HBWA.out.size)); have HBcA := hide' hb2'; have HFcA := hide' hf2; have HRcA := hide' hr2; obtain ⟨u0, u0'⟩ := hbx2.cell 0; obtain ⟨u1, u1'⟩ := hbx2.cell 1; obtain ⟨u2, u2'⟩ := hbx2.cell 2; obtain ⟨u3, u3'⟩ := hbx2.cell 3; clear hb2 hb2' hr2 hf2 hbx2)
                | (go_at_call 11; refine (HPQ.out _ (((Below.refl _ _).alloc (Nat.le_refl _) _).drew)).mono ?_; rintro e wcA ⟨aA, cA, rfl, hr2, hf2, hb2⟩; have hb2' : Below wr.heap.size wr wcA := (((Below.refl wr.heap.size wr).alloc (Nat.le_refl _) _).drew).trans (hb2.mono (by simp [World.drew])); have hs2 : wr.heap.size + 1 ≤ wcA.heap.size := (by simpa [World.drew] using hb2.size); have hT := (hb2.block wr.heap.size (by simp [World.drew])).trans (heap_alloc_new wr _); have l0 : B < wcA.heap.size := (by omega); have l1 : b0 < wcA.heap.size := (by omega); have m0 := cell_of_row wcA wr.heap.size 0 _ _ _ hT; have m0' := frozen_of_row wcA wr.heap.size 0 _ _ hT; have m1 := cell_of_row wcA wr.heap.size 1 _ _ _ hT; have m1' := frozen_of_row wcA wr.heap.size 1 _ _ hT; have m2 := cell_of_row wcA wr.heap.size 2 _ _ _ hT; have m2' := frozen_of_row wcA wr.heap.size 2 _ _ hT; have m3 := cell_of_row wcA wr.heap.size 3 _ _ _ hT; have m3' := frozen_of_row wcA wr.heap.size 3 _ _ hT; have HTA := hide' hT; have hbx2 := HBXB.out.below hb2' (Nat.le_refl _); have t0 := HCK.out wcA (HBWA.out.trans (hb2'.mono HBWA.out.size)); have HBcA := hide' hb2'; have HFcA := hide' hf2; have HRcA := hide' hr2; obtain ⟨u0, u0'⟩ := hbx2.cell 0; obtain ⟨u1, u1'⟩ := hbx2.cell 1; obtain ⟨u2, u2'⟩ := hbx2.cell 2; obtain ⟨u3, u3'⟩ := hbx2.cell 3; clear hb2 hb2' hr2 hf2 hbx2 hT))
            all_goals
              clear q0 q1 q2 q3 q0' q1' q2' q3' o0
            all_goals
              first
                | (
          obtain ⟨WA, hWe⟩ : ∃ Wn, Wn = wcA.alloc (.cells #[.int .i64 2, .slice aA (k + 1) cA, .bool false, .int .i64 0] 24) := ⟨_, rfl⟩
          obtain ⟨TA, hTe⟩ : ∃ Tn, Tn = wcA.heap.size := ⟨_, rfl⟩
          have HWA : Hid (Below wr.heap.size wr WA) := hide' (by rw [hWe]; exact HBcA.out.trans ((Below.refl _ _).alloc hs2 _))
          have HXA : Hid (Bx WA TA #[.int .i64 2, .slice aA (k + 1) cA, .bool false, .int .i64 0]) := hide' (by rw [hWe, hTe]; exact heap_alloc_new wcA _)
          have HVA : Hid (RdI WA (.slice aA (k + 1) cA) (l.take (k + 1))) := hide' (by rw [hWe]; exact HRcA.out.below ((Below.refl _ _).alloc (Nat.le_refl _) _) (Nat.le_refl _))
          have HGA : Hid (∀ b, (Value.slice aA (k + 1) cA).ownBlock = some b → wr.heap.size ≤ b) := HFcA
          have hgeA : wr.heap.size ≤ TA := by omega
          rw [← hWe, ← hTe]
          clear hWe hTe HBcA HRcA HFcA u0 u1 u2 u3 u0' u1' u2' u3' t0 l0 l1 hs2)
                | (
          obtain ⟨TA, hTe⟩ : ∃ Tn, Tn = wr.heap.size := ⟨_, rfl⟩
          obtain ⟨WA, hWe⟩ : ∃ Wn, Wn = (((wcA.setCell ⟨wr.heap.size, 0, none⟩ (.int .i64 2)).setCell ⟨wr.heap.size, 1, none⟩ (.slice aA (k + 1) cA)).setCell ⟨wr.heap.size, 2, none⟩ (.bool false)).setCell ⟨wr.heap.size, 3, none⟩ (.int .i64 0) := ⟨_, rfl⟩
          have HWA : Hid (Below wr.heap.size wr WA) := hide' (by rw [hWe]; exact belowFour HBcA.out _ (Nat.le_refl _) _ _ _ _)
          have HXA : Hid (Bx WA TA #[.int .i64 2, .slice aA (k + 1) cA, .bool false, .int .i64 0]) := hide' (by rw [hWe, hTe]; exact heap_four wcA _ _ _ _ _ _ HTA.out _ _ _ _)
          have HGA : Hid (∀ b, (Value.slice aA (k + 1) cA).ownBlock = some b → wr.heap.size ≤ b) := hide' (fun b hb => by have h := HFcA.out b hb; simp [World.drew] at h; omega)
          have HVA : Hid (RdI WA (.slice aA (k + 1) cA) (l.take (k + 1))) := hide' (by rw [hWe]; exact HRcA.out.but (R := wr.heap.size) (T := wr.heap.size) ((But.refl _ _ _).four _ (.inl rfl) _ _ _ _) (.inr fun b hb => by have h := HFcA.out b hb; simp [World.drew] at h; omega))
          have hgeA : wr.heap.size ≤ TA := by omega
          rw [← hWe, ← hTe]
          clear hWe hTe HBcA HRcA HFcA HTA u0 u1 u2 u3 u0' u1' u2' u3' t0 l0 l1 hs2 m0 m1 m2 m3 m0' m1' m2' m3')
            all_goals
              have hsA := HWA.out.size
              have HBXC' := hide' (HBXC.out.below HWA.out (Nat.le_refl _))
              have HBWZ := hide' (HBL.out.trans (HWA.out.mono HBL.out.size))
              have o0 := HCK.out WA HBWZ.out
              have HPS : Hid (∀ W, Below WA.heap.size WA W → Calls Try.prog 11 #[.agg #[.int .i64 3, .slice as' k cs', .bool false, .int .i64 0], .agg #[.int .i64 3, .int .i64 x, .int .i64 0]] W fun e w' => Fresh W 3 (k + 1) (l.take (k + 1)) ((k : Int) + 1) e w') := fun W hW => HPU.out 3 (.inr rfl) W as' cs' ((HRS.out.below HWA.out (Nat.le_refl _)).below hW (Nat.le_refl _))
              obtain ⟨q0, q0'⟩ := HBXC'.out.cell 0
              obtain ⟨q1, q1'⟩ := HBXC'.out.cell 1
              obtain ⟨q2, q2'⟩ := HBXC'.out.cell 2
              obtain ⟨q3, q3'⟩ := HBXC'.out.cell 3
              have nc : b0 ≠ WA.heap.size := by omega
              have nc' : WA.heap.size ≠ b0 := by omega
              have nC : C ≠ WA.heap.size := by omega
              have nC' : WA.heap.size ≠ C := by omega
              go_wp2
              go_region_held (fun w' => w'.cell? ⟨C, 0, none⟩ = some (.int .i64 3) ∧ w'.cell? ⟨C, 1, none⟩ = some (.slice as' k cs') ∧ w'.cell? ⟨C, 2, none⟩ = some (.bool false) ∧ w'.cell? ⟨C, 3, none⟩ = some (.int .i64 0) ∧ w'.cell? ⟨b0, off + k, none⟩ = some (.int .i64 x)) (go_keep)
                (first
                  | (go_at_call 11; refine (HPS.out WA.drew ((Below.refl _ _).drew)).mono ?_; rintro e wcZ ⟨aZ, cZ, rfl, hr2, hf2, hb2⟩; have hb2' : Below WA.heap.size WA wcZ := ((Below.refl _ _).drew).trans hb2; have hs2 : WA.heap.size ≤ wcZ.heap.size := hb2.size; have l0 : C < wcZ.heap.size := (by omega); have l1 : b0 < wcZ.heap.size := (by omega); have hbx2 := HBXC'.out.below hb2' (Nat.le_refl _); have t0 := HCK.out wcZ (HBWZ.out.trans (hb2'.mono HBWZ.out.size)); have HBcZ := hide' hb2'; have HFcZ := hide' hf2; have HRcZ := hide' hr2; obtain ⟨u0, u0'⟩ := hbx2.cell 0; obtain ⟨u1, u1'⟩ := hbx2.cell 1; obtain ⟨u2, u2'⟩ := hbx2.cell 2; obtain ⟨u3, u3'⟩ := hbx2.cell 3; clear hb2 hb2' hr2 hf2 hbx2)
                  | (go_at_call 11; refine (HPS.out _ (((Below.refl _ _).alloc (Nat.le_refl _) _).drew)).mono ?_; rintro e wcZ ⟨aZ, cZ, rfl, hr2, hf2, hb2⟩; have hb2' : Below WA.heap.size WA wcZ := (((Below.refl WA.heap.size WA).alloc (Nat.le_refl _) _).drew).trans (hb2.mono (by simp [World.drew])); have hs2 : WA.heap.size + 1 ≤ wcZ.heap.size := (by simpa [World.drew] using hb2.size); have hT := (hb2.block WA.heap.size (by simp [World.drew])).trans (heap_alloc_new WA _); have l0 : C < wcZ.heap.size := (by omega); have l1 : b0 < wcZ.heap.size := (by omega); have m0 := cell_of_row wcZ WA.heap.size 0 _ _ _ hT; have m0' := frozen_of_row wcZ WA.heap.size 0 _ _ hT; have m1 := cell_of_row wcZ WA.heap.size 1 _ _ _ hT; have m1' := frozen_of_row wcZ WA.heap.size 1 _ _ hT; have m2 := cell_of_row wcZ WA.heap.size 2 _ _ _ hT; have m2' := frozen_of_row wcZ WA.heap.size 2 _ _ hT; have m3 := cell_of_row wcZ WA.heap.size 3 _ _ _ hT; have m3' := frozen_of_row wcZ WA.heap.size 3 _ _ hT; have HTZ := hide' hT; have hbx2 := HBXC'.out.below hb2' (Nat.le_refl _); have t0 := HCK.out wcZ (HBWZ.out.trans (hb2'.mono HBWZ.out.size)); have HBcZ := hide' hb2'; have HFcZ := hide' hf2; have HRcZ := hide' hr2; obtain ⟨u0, u0'⟩ := hbx2.cell 0; obtain ⟨u1, u1'⟩ := hbx2.cell 1; obtain ⟨u2, u2'⟩ := hbx2.cell 2; obtain ⟨u3, u3'⟩ := hbx2.cell 3; clear hb2 hb2' hr2 hf2 hbx2 hT))
            all_goals
              clear q0 q1 q2 q3 q0' q1' q2' q3' o0
            all_goals
              first
                | (
          obtain ⟨WZ, hWe⟩ : ∃ Wn, Wn = wcZ.alloc (.cells #[.int .i64 3, .slice aZ (k + 1) cZ, .bool false, .int .i64 0] 24) := ⟨_, rfl⟩
          obtain ⟨TZ, hTe⟩ : ∃ Tn, Tn = wcZ.heap.size := ⟨_, rfl⟩
          have HWZ : Hid (Below WA.heap.size WA WZ) := hide' (by rw [hWe]; exact HBcZ.out.trans ((Below.refl _ _).alloc hs2 _))
          have HXZ : Hid (Bx WZ TZ #[.int .i64 3, .slice aZ (k + 1) cZ, .bool false, .int .i64 0]) := hide' (by rw [hWe, hTe]; exact heap_alloc_new wcZ _)
          have HVZ : Hid (RdI WZ (.slice aZ (k + 1) cZ) (l.take (k + 1))) := hide' (by rw [hWe]; exact HRcZ.out.below ((Below.refl _ _).alloc (Nat.le_refl _) _) (Nat.le_refl _))
          have HGZ : Hid (∀ b, (Value.slice aZ (k + 1) cZ).ownBlock = some b → WA.heap.size ≤ b) := HFcZ
          have hgeZ : WA.heap.size ≤ TZ := by omega
          rw [← hWe, ← hTe]
          clear hWe hTe HBcZ HRcZ HFcZ u0 u1 u2 u3 u0' u1' u2' u3' t0 l0 l1 hs2)
                | (
          obtain ⟨TZ, hTe⟩ : ∃ Tn, Tn = WA.heap.size := ⟨_, rfl⟩
          obtain ⟨WZ, hWe⟩ : ∃ Wn, Wn = (((wcZ.setCell ⟨WA.heap.size, 0, none⟩ (.int .i64 3)).setCell ⟨WA.heap.size, 1, none⟩ (.slice aZ (k + 1) cZ)).setCell ⟨WA.heap.size, 2, none⟩ (.bool false)).setCell ⟨WA.heap.size, 3, none⟩ (.int .i64 0) := ⟨_, rfl⟩
          have HWZ : Hid (Below WA.heap.size WA WZ) := hide' (by rw [hWe]; exact belowFour HBcZ.out _ (Nat.le_refl _) _ _ _ _)
          have HXZ : Hid (Bx WZ TZ #[.int .i64 3, .slice aZ (k + 1) cZ, .bool false, .int .i64 0]) := hide' (by rw [hWe, hTe]; exact heap_four wcZ _ _ _ _ _ _ HTZ.out _ _ _ _)
          have HGZ : Hid (∀ b, (Value.slice aZ (k + 1) cZ).ownBlock = some b → WA.heap.size ≤ b) := hide' (fun b hb => by have h := HFcZ.out b hb; simp [World.drew] at h; omega)
          have HVZ : Hid (RdI WZ (.slice aZ (k + 1) cZ) (l.take (k + 1))) := hide' (by rw [hWe]; exact HRcZ.out.but (R := WA.heap.size) (T := WA.heap.size) ((But.refl _ _ _).four _ (.inl rfl) _ _ _ _) (.inr fun b hb => by have h := HFcZ.out b hb; simp [World.drew] at h; omega))
          have hgeZ : WA.heap.size ≤ TZ := by omega
          rw [← hWe, ← hTe]
          clear hWe hTe HBcZ HRcZ HFcZ HTZ u0 u1 u2 u3 u0' u1' u2' u3' t0 l0 l1 hs2 m0 m1 m2 m3 m0' m1' m2' m3')
            all_goals
              have hsZ := HWZ.out.size
              have HLT := HXA.out.lt
              have HXA' := hide' (HXA.out.below HWZ.out (Nat.le_refl _))
              have HVA' := hide' (HVA.out.below HWZ.out (Nat.le_refl _))
              have HBZ := hide' (HWA.out.trans (HWZ.out.mono hsA))
              have HGZ' : Hid (∀ b, (Value.slice aZ (k + 1) cZ).ownBlock = some b → wr.heap.size ≤ b) := hide' (fun b hb => by have := HGZ.out b hb; omega)
              have HBXB' := hide' (HBXB.out.below HBZ.out (Nat.le_refl _))
              have HBXC'' := hide' (HBXC.out.below HBZ.out (Nat.le_refl _))
              obtain ⟨q0, q0'⟩ := HXA'.out.cell 0
              obtain ⟨q1, q1'⟩ := HXA'.out.cell 1
              obtain ⟨q2, q2'⟩ := HXA'.out.cell 2
              obtain ⟨q3, q3'⟩ := HXA'.out.cell 3
              obtain ⟨t0, t0'⟩ := HXZ.out.cell 0
              obtain ⟨t1, t1'⟩ := HXZ.out.cell 1
              obtain ⟨t2, t2'⟩ := HXZ.out.cell 2
              obtain ⟨t3, t3'⟩ := HXZ.out.cell 3
              obtain ⟨u0, u0'⟩ := HBXB'.out.cell 0
              obtain ⟨u1, u1'⟩ := HBXB'.out.cell 1
              obtain ⟨u2, u2'⟩ := HBXB'.out.cell 2
              obtain ⟨u3, u3'⟩ := HBXB'.out.cell 3
              obtain ⟨y0, y0'⟩ := HBXC''.out.cell 0
              obtain ⟨y1, y1'⟩ := HBXC''.out.cell 1
              obtain ⟨y2, y2'⟩ := HBXC''.out.cell 2
              obtain ⟨y3, y3'⟩ := HBXC''.out.cell 3
              have e1 : TZ ≠ B := by omega
              have e2 : B ≠ TZ := by omega
              have e3 : C ≠ B := by omega
              have e4 : B ≠ C := by omega
              have e5 : TA ≠ B := by omega
              have e6 : B ≠ TA := by omega
              have e7 : TZ ≠ C := by omega
              have e8 : C ≠ TZ := by omega
              go_wp2
              go_roundw
              case rel => exact ⟨k + 1, _, _, by go_num, by omega, HIN, HNX.out WZ HBZ.out _ _ HVA'.out HVZ.out HGA.out HGZ'.out⟩
              case measure => simp [intOf]; omega
          · go_wp2
            go_ret
            exact ⟨rfl, HBL.out⟩
        · go_wp2
          go_ret
          exact ⟨rfl, HBL.out⟩
      · have HINL : Hid (∀ x ∈ l, -1099511627776 ≤ x ∧ x ≤ 1099511627776) := fun x hx => hin.out x (by rw [List.take_of_length_le (by omega)]; exact hx)
        have HAT2 : Hid (TwoAt w B C wr (.slice aq k cq) (l.drop 0) (.slice as' k cs') (l.take (l.length - 0))) := by
          have h := hat.out
          rw [List.take_of_length_le (by omega)] at h
          have e : l.take (l.length - 0) = l := List.take_of_length_le (by omega)
          rw [e]
          exact h
        clear hat hin HBXB HBXC HRQ HRS hlt0 HAT
        go_wp2
        go_loopw [11] (fun i wr => ∃ (j : Nat) (vq vs : Value), i = .int .i64 (j : Int) ∧ j ≤ l.length ∧ Hid (TwoAt w B C wr vq (l.drop j) vs (l.take (l.length - j)))) (fun i _ => l.length - (intOf i).toNat)
        case atStart => exact ⟨0, _, _, rfl, Nat.zero_le _, HAT2⟩
        case round =>
          clear lB lC HBL HAT2
          obtain ⟨j, vq, vs, rfl, hjl, hat⟩ := hrel
          have lB := hat.out.boxB.lt
          have lC := hat.out.boxC.lt
          have l1 : (l.drop j).length = l.length - j := by simp
          have l2 : (l.take (l.length - j)).length = l.length - j := by simp
          obtain ⟨aq2, cq2, hvq, -⟩ := id hat.out.rdq
          obtain ⟨as2, cs2, hvs, -⟩ := id hat.out.rds
          rw [l1] at hvq
          rw [l2] at hvs
          subst hvq hvs
          have HRQ := hide' hat.out.rdq
          have HRS := hide' hat.out.rds
          have HBXB := hide' hat.out.boxB
          have HBXC := hide' hat.out.boxC
          have HBL := hide' hat.out.below
          obtain ⟨q0, q0'⟩ := HBXB.out.cell 0
          obtain ⟨q1, q1'⟩ := HBXB.out.cell 1
          obtain ⟨q2, q2'⟩ := HBXB.out.cell 2
          obtain ⟨q3, q3'⟩ := HBXB.out.cell 3
          by_cases hj : j < l.length
          · rcases HAO.out with hao | ⟨b0, off, rfl, hc⟩
            · subst hao; simp at hj
            have hb0 : b0 < w.heap.size := World.block_lt_of_cell? w ⟨b0, off + j, none⟩ (hc j hj)
            have HCK : Hid (∀ W, Below w.heap.size w W → ∀ i, i < l.length → W.cell? ⟨b0, off + i, none⟩ = some (.int .i64 (l.getD i 0))) := fun W hW i hi => by
              rw [hW.cell (p := ⟨b0, off + i, none⟩) hb0]; exact hc i hi
            have hdj : l.drop j ≠ [] := fun e => by have := congrArg List.length e; rw [l1, List.length_nil] at this; omega
            have htj : l.take (l.length - j) ≠ [] := fun e => by have := congrArg List.length e; rw [l2, List.length_nil] at this; omega
            have HPQ : Hid (∀ W, Below wr.heap.size wr W → Calls Try.prog 11 #[.agg #[.int .i64 2, .slice aq2 (l.length - j) cq2, .bool false, .int .i64 0], .agg #[.int .i64 4, .int .i64 0, .int .i64 0]] W fun e w' => Fresh W 2 (l.length - (j + 1)) (l.drop (j + 1)) (l.getD j 0) e w') := fun W hW => by
              have h := HST.out W (.agg #[.int .i64 2, .slice aq2 (l.length - j) cq2, .bool false, .int .i64 0]) ⟨2, l.drop j, false, 0⟩ ⟨4, 0, 0⟩ ⟨_, rfl, HRQ.out.below hW (Nat.le_refl _), i64_2, i64_0⟩ (by show (2 : Int) ≠ 4; decide) (by show (l.drop j).length ≤ 1000000; rw [l1]; omega)
              rw [popq_is (l.drop j) (by rw [l1]; omega) hdj (fun x hx => HINL.out x (List.mem_of_mem_drop hx)), List.drop_drop] at h
              have eg : (l.drop j).getD 0 0 = l.getD j 0 := by simp [List.getD]
              rw [eg] at h
              refine h.mono (fun e w' hh => fresh_of hh (fun e => ?_) _ (by simp))
              have := congrArg List.length e
              rw [List.length_drop, l1] at this
              omega
            have HPS : Hid (∀ W, Below wr.heap.size wr W → Calls Try.prog 11 #[.agg #[.int .i64 3, .slice as2 (l.length - j) cs2, .bool false, .int .i64 0], .agg #[.int .i64 4, .int .i64 0, .int .i64 0]] W fun e w' => Fresh W 3 (l.length - (j + 1)) (l.take (l.length - (j + 1))) (l.getD (l.length - 1 - j) 0) e w') := fun W hW => by
              have h := HST.out W (.agg #[.int .i64 3, .slice as2 (l.length - j) cs2, .bool false, .int .i64 0]) ⟨3, l.take (l.length - j), false, 0⟩ ⟨4, 0, 0⟩ ⟨_, rfl, HRS.out.below hW (Nat.le_refl _), i64_3, i64_0⟩ (by show (3 : Int) ≠ 4; decide) (by show (l.take (l.length - j)).length ≤ 1000000; rw [l2]; omega)
              rw [pops_is (l.take (l.length - j)) (by rw [l2]; omega) htj (fun x hx => HINL.out x (List.mem_of_mem_take hx)), l2, List.take_take] at h
              have em : min (l.length - j - 1) (l.length - j) = l.length - (j + 1) := by omega
              have en : l.length - j - 1 = l.length - 1 - j := by omega
              have hlt1 : l.length - 1 - j < l.length - j := by omega
              have eg : (l.take (l.length - j)).getD (l.length - j - 1) 0 = l.getD (l.length - 1 - j) 0 := by
                rw [en, List.getD_eq_getElem?_getD, List.getD_eq_getElem?_getD, List.getElem?_take, if_pos hlt1]
              rw [em, eg] at h
              refine h.mono (fun e w' hh => fresh_of hh (fun e => ?_) _ (by simp))
              have := congrArg List.length e
              rw [List.length_take, l2] at this
              omega
            have HNX := hide' (fun (W : World) hb (v2 v3 : Value) hq hs h1 h2 => hat.out.next (W := W) hb (v2 := v2) (v3 := v3) (P' := l.drop (j + 1)) (Q' := l.take (l.length - (j + 1))) hq hs h1 h2)
            have gB := hat.out.oldB
            have gC := hat.out.oldC
            obtain ⟨M, hM⟩ : ∃ M, M = l.length - (j + 1) := ⟨_, rfl⟩
            obtain ⟨I, hI⟩ : ∃ I, I = l.length - 1 - j := ⟨_, rfl⟩
            obtain ⟨x, hx⟩ : ∃ x, x = l.getD j 0 := ⟨_, rfl⟩
            obtain ⟨y, hy⟩ : ∃ y, y = l.getD I 0 := ⟨_, rfl⟩
            have HCJ := hide' (fun W hW => HCK.out W hW j hj)
            have HCI := hide' (fun W hW => HCK.out W hW I (by omega))
            rw [← hI, ← hy] at HPS
            rw [← hx] at HPQ HCJ
            rw [← hy] at HCI
            have HI := hide' hI
            have HXX := hide' hx
            have HYY := hide' hy
            have HMM := hide' hM
            have hIi : ((l.length : Int) - 1 - (j : Int)) = (I : Int) := by omega
            have hI0 : (I : Int) < (l.length : Int) := by omega
            clear hI hx hy hM hc hat l1 l2 hdj htj
            go_wp2_with fail
            refine (HPQ.out wr (Below.refl _ _)).mono ?_
            rintro e w2 ⟨a2, c2, rfl, hr2, hf2, hb2⟩
            have hs2 := hb2.size
            have HB2 := hide' hb2
            have HR2 := hide' hr2
            have HF2 := hide' hf2
            have HBXC2 := hide' (HBXC.out.below hb2 (Nat.le_refl _))
            clear hr2 hf2 hb2 q0 q1 q2 q3 q0' q1' q2' q3'
            obtain ⟨q0, q0'⟩ := HBXC2.out.cell 0
            obtain ⟨q1, q1'⟩ := HBXC2.out.cell 1
            obtain ⟨q2, q2'⟩ := HBXC2.out.cell 2
            obtain ⟨q3, q3'⟩ := HBXC2.out.cell 3
            have m0 : C < w2.heap.size := by omega
            go_wp2_with fail
            refine (HPS.out _ (HB2.out.trans ((Below.refl _ _).alloc hs2 _))).mono ?_
            rintro e w3 ⟨a3, c3, rfl, hr3, hf3, hb3⟩
            have hs3 : w2.heap.size + 1 ≤ w3.heap.size := by have h := hb3.size; simpa using h
            have hb3' : Below w2.heap.size w2 w3 := ((Below.refl _ _).alloc (Nat.le_refl _) _).trans (hb3.mono (by simp))
            have HTA : Hid (Bx w3 w2.heap.size #[.int .i64 2, .slice a2 (l.length - (j + 1)) c2, .bool false, .int .i64 0]) := hide' ((hb3.block _ (by simp)).trans (heap_alloc_new w2 _))
            have HB3 := hide' (HB2.out.trans (hb3'.mono hs2))
            have HR23 := hide' (HR2.out.below hb3' (Nat.le_refl _))
            have HR3 := hide' hr3
            have HF3 : Hid (∀ b, (Value.slice a3 (l.length - (j + 1)) c3).ownBlock = some b → wr.heap.size ≤ b) := hide' (fun b hb => by have h := hf3 b hb; simp at h; omega)
            have HBXB3 := hide' (HBXB.out.below HB3.out (Nat.le_refl _))
            have HBXC3 := hide' (HBXC.out.below HB3.out (Nat.le_refl _))
            have HBL3 := hide' (HBL.out.trans (HB3.out.mono HBL.out.size))
            have o0 := HCJ.out w3 HBL3.out
            have o1 := HCI.out w3 HBL3.out
            clear hr3 hf3 hb3 hb3' q0 q1 q2 q3 q0' q1' q2' q3'
            obtain ⟨q0, q0'⟩ := HTA.out.cell 0
            obtain ⟨q1, q1'⟩ := HTA.out.cell 1
            obtain ⟨q2, q2'⟩ := HTA.out.cell 2
            obtain ⟨q3, q3'⟩ := HTA.out.cell 3
            obtain ⟨u0, u0'⟩ := HBXB3.out.cell 0
            obtain ⟨u1, u1'⟩ := HBXB3.out.cell 1
            obtain ⟨u2, u2'⟩ := HBXB3.out.cell 2
            obtain ⟨u3, u3'⟩ := HBXB3.out.cell 3
            obtain ⟨y0, y0'⟩ := HBXC3.out.cell 0
            obtain ⟨y1, y1'⟩ := HBXC3.out.cell 1
            obtain ⟨y2, y2'⟩ := HBXC3.out.cell 2
            obtain ⟨y3, y3'⟩ := HBXC3.out.cell 3
            have r0 : b0 < w3.heap.size := by omega
            have r1 : B < w3.heap.size := by omega
            have r2 : C < w3.heap.size := by omega
            have r3 : w2.heap.size < w3.heap.size := by omega
            have e1 : w2.heap.size ≠ B := by omega
            have e2 : B ≠ w2.heap.size := by omega
            have e3 : C ≠ B := by omega
            have e4 : B ≠ C := by omega
            go_wp2
            go_roundw
            case rel => exact ⟨j + 1, _, _, by go_num, by omega, (HNX.out w3 HB3.out _ _ HR23.out HR3.out HF2.out HF3.out).alloc _⟩
            case measure => simp [intOf]; omega
          · have HBLL := hide' hat.out.below
            have eM : l.length - j = 0 := by omega
            rw [eM] at q1
            obtain ⟨t1, t1'⟩ := HBXC.out.cell 1
            rw [eM] at t1
            clear hat l1 l2 eM
            go_wp2
            go_ret
            exact ⟨rfl, HBLL.out⟩
  · go_wp2
    go_ret
    exact ⟨rfl, HB1.out⟩

theorem own : ownKnob Try.prog.godebug = none := by kernel_rfl
theorem laidOut : laidOutB Try.prog = true := by kernel_rfl

set_option linter.unusedVariables false in
set_option maxRecDepth 100000 in
theorem lifted (os : Os) (started : os.Started) (H : Type) (enc : TypeId × Value → H) :
    ReturnsInHanded {} Try.checked os 8 .any (Rows.objsOrderSpec.pre6 enc Try.prog Try.f8 Rows.objsOrderRow.domain false) (Rows.objsOrderSpec.post enc Try.prog Try.f8 false true false false) := by
  refine returnsInHanded_of_change (C := Try.checked) own started (by kernel_rfl) Try.func8
    (ChangeSpec.witness6 (enc := enc) (C := Try.checked) false ⟨#[], #[.slice none 0 0], []⟩ 8 (by kernel_rfl) (by kernel_rfl) (by kernel_rfl) (by kernel_rfl)) ?_
  intro W base args ds gs before hval0 hW hcnd _
  have hval : ∀ (j : Nat) t v, Try.f8.params[j]? = some t → args[j]? = some v → Value.okWide Try.prog W .any base t v := hval0
  have hW' := hW
  obtain ⟨p, q, hA0, hV, rfl, hfz, hnd⟩ := hW
  have hA : DataW.TrodAll enc Try.prog W 0 (fun _ => true) true Try.f8.params.toList args.toList ds p := hA0
  rw [Try.params8] at hA hval
  obtain ⟨v0, vs0, d0, ds0, p0, q0, hargs, rfl, rfl, h0, r0⟩ := trodAll_cons hA
  obtain ⟨rfl, rfl, rfl⟩ := trodAll_nil r0
  obtain rfl : args = #[v0] := by cases args; simp_all
  obtain ⟨rfl, rfl⟩ := trodVars_none hV
  obtain ⟨a0, len0, cap0, rfl⟩ := okWide_slice Try.underlying22 (hval 0 22 v0 rfl rfl)
  have k0 := h0
  have lt0 : ∀ x ∈ p0, x.block < W.heap.size := by obtain ⟨m, hm⟩ := k0; exact DataW.trod_lt m _ _ _ hm
  obtain ⟨l0, w0⟩ : ∃ l, RdI W (.slice a0 len0 cap0) l := by
    obtain ⟨fuel, hf⟩ := h0
    obtain ⟨v, l, hcs, hr⟩ := open_rdI hf
    simp [Value.cells] at hcs
    subst hcs
    exact ⟨l, hr⟩
  clear hA0 hval0
  refine (walk _ l0 W w0).mono fun e W' ⟨he, bel⟩ => ?_
  subst he
  exact ⟨_, rfl, _, _, _, [], _, [], hW', trodAll_mk1 (shut_bool Try.underlying4 _), (trodAll_cons_mk (Below.trod laidOut (by kernel_rfl) (of_decide_eq_true (by kernel_rfl)) k0 bel lt0) trodAll_mk0), rfl, bel.frame _, fun h => by cases h⟩

theorem over : Rows.objsOrderRow.holds Try.pinned (OpenSpec.ofChange Rows.objsOrderSpec) :=
  OpenClaim.holds_of_wide 8 Try.f8 rfl rfl rfl rfl rfl rfl rfl ⟨rfl, rfl, rfl, rfl, rfl⟩ rfl rfl rfl rfl rfl (by kernel_rfl) Try.func8 (by kernel_rfl)
    (of_decide_eq_true (by kernel_rfl)) (by unfold Func.isWrapper; first | (rw [if_pos (by decide +kernel)]; kernel_rfl) | (rw [if_neg (by decide +kernel)]; exact ⟨rfl, rfl⟩))
    (fun os started H enc _ => lifted os started H enc)

end Go.Proofs.Ytclankoffcfkfaa.objsOrder
namespace Go.Proofs.Ytclankoffcfkfaa

theorem objsOrder_holds : Rows.ObjsOrderSaid := objsOrder.over

end Go.Proofs.Ytclankoffcfkfaa
