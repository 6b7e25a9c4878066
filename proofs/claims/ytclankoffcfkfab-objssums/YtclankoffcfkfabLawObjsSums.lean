/- Proved: for all numbers the law ObjsSums answers true (and the call leaves all older memory as it was). No condition. -/
import Derived.Test.YtclankoffcfkfabObjsBox
import Derived.OpenShut
import Derived.ChangeOld
namespace Go.Proofs.Ytclankoffcfkfab.objsSums
open Go.ChangeShapes Go.WideShapes Go.ChangeAt Go.RowKit

theorem counter_may (n : Int) (h0 : -1099511627776 ≤ n) (h1 : n ≤ 1099511627776) : MayS ⟨0, [n], false, 0⟩ := by
  refine ⟨by simp, by simp, fun _ => rfl, by simp, by simp, (numsOk_list (kind := 0) (l := [n]) (by decide) (by decide)).2 ⟨by simp, fun _ => rfl, (inBounds_iff _).2 fun x hx => ?_⟩⟩
  rw [List.mem_singleton.1 hx]
  exact ⟨h0, h1⟩

theorem counter_add (n x : Int) (h0 : -200000000000 ≤ n) (h1 : n ≤ 200000000000) (h2 : -1073741824 ≤ x) (h3 : x ≤ 1073741824) : stepS ⟨0, [n], false, 0⟩ ⟨1, x, 0⟩ = (⟨0, [n + x], false, 0⟩, n) := by
  rw [step_open (counter_may n (by omega) (by omega)) rfl _ (by simp), if_pos (by simp)]
  have e : cutZ x = x := cutZ_same (by omega) (by omega)
  have e2 : cutZ (n + x) = n + x := cutZ_same (by omega) (by omega)
  simp [oneS, e, e2]

theorem counter_get (n : Int) (h0 : -200000000000 ≤ n) (h1 : n ≤ 200000000000) : stepS ⟨0, [n], false, 0⟩ ⟨7, 0, 0⟩ = (⟨0, [n], false, 0⟩, n) := by
  rw [step_open (counter_may n (by omega) (by omega)) rfl _ (by simp), if_pos (by simp)]
  simp [oneS]

set_option maxRecDepth 100000 in
set_option maxHeartbeats 4000000 in
theorem walk (v : Value) (l : List Int) (w : World) (hr : RdI w v l) :
    Calls Try.prog 3 #[v] w fun e w' => e = .returned (.bool true) ∧ Below w.heap.size w w' := by
  have HA := hide' (fun w => awakeO_any w)
  have HR := hide' hr
  obtain ⟨ao, cap, rfl, hlc, hcm, -, -, hao⟩ := hr
  have hml : (l.length : Int) ≤ 9223372036854775807 := by unfold maxLen at hcm; omega
  have HAO := hide' hao
  have HSA : Hid (∀ w, Calls Try.prog 6 #[.int .i64 0] w fun e w' => ∃ b off cap, e = .returned (.agg #[.int .i64 0, .slice (some ⟨b, off, none⟩) 1 cap, .bool false, .int .i64 0]) ∧ RdI w' (.slice (some ⟨b, off, none⟩) 1 cap) [0] ∧ Below w.heap.size w w') := fun w => by
    refine (start_any 0 w).mono ?_
    rintro e w' ⟨v', rfl, ⟨vl, rfl, hr, _, _⟩, hb⟩
    have hr' : RdI w' vl [0] := hr
    obtain ⟨b, off, cap, rfl, _, _⟩ := hr'.filled (by simp)
    exact ⟨b, off, cap, rfl, hr', hb⟩
  have HST := hide' (fun w1 v1 s1 o1 (h : StV w1 v1 s1) hk hl => step_plain v1 s1 o1 w1 h hk hl)
  have C0 : Hid (I64 0) := i64_small (by decide) (by decide)
  clear hao hlc hcm
  go_enter Try.func3, Try.ntmps3
  go_wp2_with fail
  refine (HA.out _).mono ?_
  rintro e w1 ⟨rfl, hb1⟩
  have HB1 := hide' hb1
  have hs1 := hb1.size
  clear hb1 HA
  by_cases hl : (l.length : Int) ≤ 100
  · go_wp2_with fail
    refine (HSA.out _).mono ?_
    rintro e wS ⟨b2, o2, c2, rfl, hr2, hb2⟩
    have hs2 := hb2.size
    have HAT : Hid (BoxAt w wS.heap.size (wS.alloc (.cells #[.int .i64 0, .slice (some ⟨b2, o2, none⟩) 1 c2, .bool false, .int .i64 0] 25)) (.slice (some ⟨b2, o2, none⟩) 1 c2) ⟨0, [0], false, 0⟩) := ⟨by omega, heap_alloc_new wS _, hr2.below ((Below.refl _ _).alloc (Nat.le_refl _) _) (Nat.le_refl _), C0.out, C0.out, .inr (fun b hb => by
      obtain ⟨b', off', cap', hv, hlt, _⟩ := hr2.filled (by simp)
      simp only [Value.slice.injEq] at hv
      obtain ⟨e, _, _⟩ := hv
      injection e with e
      injection e with e1
      have := ownBlock_is hb
      omega), (HB1.out.trans (hb2.mono HB1.out.size)).alloc (by omega) _⟩
    clear hr2 hb2 HSA
    go_wp2
    generalize wS.heap.size = B at *
    go_loopw [5, 6] (fun n i wr => ∃ (k : Nat) (N : Int) (vk : Value), n = .int .i64 N ∧ i = .int .i64 (k : Int) ∧ k ≤ l.length ∧ -((k : Int) * 1073741824) ≤ N ∧ N ≤ (k : Int) * 1073741824 ∧ Hid (BoxAt w B wr vk ⟨0, [N], false, 0⟩)) (fun _ i _ => l.length - (intOf i).toNat)
    case atStart => exact ⟨0, 0, _, rfl, rfl, Nat.zero_le _, by omega, by omega, HAT⟩
    case round =>
      obtain ⟨k, N, vk, rfl, rfl, hkl, hN0, hN1, hat⟩ := hrel
      have hk100 : (k : Int) ≤ 100 := by omega
      have hN2 : -200000000000 ≤ N := by omega
      have hN3 : N ≤ 200000000000 := by omega
      have hltB := hat.out.box.lt
      have hold := hat.out.old
      obtain ⟨bk, ok, ck, rfl, hbk, -⟩ := hat.out.rd.filled (by simp)
      have HBX := hide' hat.out.box
      obtain ⟨q0, q0'⟩ := HBX.out.cell 0
      obtain ⟨q1, q1'⟩ := HBX.out.cell 1
      obtain ⟨q2, q2'⟩ := HBX.out.cell 2
      obtain ⟨q3, q3'⟩ := HBX.out.cell 3
      simp only [List.length_singleton] at q1
      have HCALL : Hid (∀ x, -1073741824 ≤ x → x ≤ 1073741824 → ∀ W, Below wr.heap.size wr W → Calls Try.prog 7 #[.agg #[.int .i64 0, .slice (some ⟨bk, ok, none⟩) 1 ck, .bool false, .int .i64 0], .agg #[.int .i64 1, .int .i64 x, .int .i64 0]] W fun e w' => Stepped W (.slice (some ⟨bk, ok, none⟩) 1 ck) [N] (⟨0, [N + x], false, 0⟩, N) e w') := fun x h0 h1 W hW => by
        have h := HST.out W (.agg #[.int .i64 0, .slice (some ⟨bk, ok, none⟩) 1 ck, .bool false, .int .i64 0]) ⟨0, [N], false, 0⟩ ⟨1, x, 0⟩ (hat.out.st.below hW (Nat.le_refl _)) (by show (0 : Int) ≠ 4; decide) (by simp)
        rw [counter_add N x hN2 hN3 h0 h1] at h
        exact h
      have HGET : Hid (Calls Try.prog 7 #[.agg #[.int .i64 0, .slice (some ⟨bk, ok, none⟩) 1 ck, .bool false, .int .i64 0], .agg #[.int .i64 7, .int .i64 0, .int .i64 0]] wr fun e w' => Stepped wr (.slice (some ⟨bk, ok, none⟩) 1 ck) [N] (⟨0, [N], false, 0⟩, N) e w') := by
        have h := HST.out wr (.agg #[.int .i64 0, .slice (some ⟨bk, ok, none⟩) 1 ck, .bool false, .int .i64 0]) ⟨0, [N], false, 0⟩ ⟨7, 0, 0⟩ hat.out.st (by show (0 : Int) ≠ 4; decide) (by simp)
        rw [counter_get N hN2 hN3] at h
        exact h
      by_cases hlt : k < l.length
      · rcases HAO.out with hao | ⟨b0, off, rfl, hc⟩
        · subst hao; simp at hlt
        have hb0 : b0 < w.heap.size := World.block_lt_of_cell? w ⟨b0, off + k, none⟩ (hc k hlt)
        have HCK : Hid (∀ W, Below w.heap.size w W → W.cell? ⟨b0, off + k, none⟩ = some (.int .i64 (l.getD k 0))) := fun W hW => by
          rw [hW.cell (p := ⟨b0, off + k, none⟩) hb0]; exact hc k hlt
        have o0 := HCK.out wr hat.out.below
        generalize l.getD k 0 = x at *
        have HBL := hide' hat.out.below
        have nb : b0 ≠ wr.heap.size := by omega
        have nb' : wr.heap.size ≠ b0 := by omega
        have nB : B ≠ wr.heap.size := by omega
        have nB' : wr.heap.size ≠ B := by omega
        have nb2 : b0 ≠ B := by omega
        have nb3 : B ≠ b0 := by omega
        have hk0 : (0 : Int) ≤ (k : Int) := by omega
        have hkI : (k : Int) < (l.length : Int) := by omega
        clear hc HGET
        by_cases hx1 : x ≤ 1073741824
        · by_cases hx0 : -1073741824 ≤ x
          · have HC2 := hide' (HCALL.out x hx0 hx1)
            have HNX := hide' (fun (w2 : World) (v2 : Value) hr2 hd hb2 X => hat.out.next (w2 := w2) (v2 := v2) (k' := 0) (g' := 0) (L' := [N + x]) (s' := false) hr2 C0.out C0.out hd hb2 X)
            have HNX2 := hide' (fun (w2 : World) (v2 : Value) hr2 hd hb2 => hat.out.next2 (w2 := w2) (v2 := v2) (k' := 0) (g' := 0) (L' := [N + x]) (s' := false) hr2 C0.out C0.out hd hb2)
            clear HCALL hat
            go_wp2
            go_region_held (fun w' => w'.cell? ⟨B, 0, none⟩ = some (.int .i64 0) ∧ w'.cell? ⟨B, 1, none⟩ = some (.slice (some ⟨bk, ok, none⟩) 1 ck) ∧ w'.cell? ⟨B, 2, none⟩ = some (.bool false) ∧ w'.cell? ⟨B, 3, none⟩ = some (.int .i64 0) ∧ w'.cell? ⟨b0, off + k, none⟩ = some (.int .i64 x)) (go_keep)
              (first
                | (go_at_call 7; refine (HC2.out wr.drew ((Below.refl _ _).drew)).mono ?_; rintro e w2 ⟨v2, rfl, hr2, hk2, he2, hd2, hb2⟩; have hb2' : Below wr.heap.size wr w2 := ((Below.refl _ _).drew).trans hb2; have hs2 : wr.heap.size ≤ w2.heap.size := hb2.size; have l0 : B < w2.heap.size := (by omega); have l1 : b0 < w2.heap.size := (by omega); have hbx2 := HBX.out.below hb2' (Nat.le_refl _); have t0 := HCK.out w2 (HBL.out.trans (hb2'.mono HBL.out.size)); have HB2 := hide' hb2'; have HD2 := hide' hd2; have HR2 := hide' hr2; obtain ⟨b5, o5, c5, rfl, -, -⟩ := hr2.filled (by simp); obtain ⟨u0, u0'⟩ := hbx2.cell 0; obtain ⟨u1, u1'⟩ := hbx2.cell 1; obtain ⟨u2, u2'⟩ := hbx2.cell 2; obtain ⟨u3, u3'⟩ := hbx2.cell 3; simp only [List.length_singleton] at u1; clear hb2 hb2' hr2 hd2 hk2 he2 hbx2)
                | (go_at_call 7; refine (HC2.out _ (((Below.refl _ _).alloc (Nat.le_refl _) _).drew)).mono ?_; rintro e w2 ⟨v2, rfl, hr2, hk2, he2, hd2, hb2⟩; have hb2' : Below wr.heap.size wr w2 := (((Below.refl wr.heap.size wr).alloc (Nat.le_refl _) _).drew).trans (hb2.mono (by simp [World.drew])); have hs2 : wr.heap.size + 1 ≤ w2.heap.size := (by simpa [World.drew] using hb2.size); have hT := (hb2.block wr.heap.size (by simp [World.drew])).trans (heap_alloc_new wr _); have l0 : B < w2.heap.size := (by omega); have l1 : b0 < w2.heap.size := (by omega); have m0 := cell_of_row w2 wr.heap.size 0 _ _ _ hT; have m1 := cell_of_row w2 wr.heap.size 1 _ _ _ hT; have m2 := cell_of_row w2 wr.heap.size 2 _ _ _ hT; have m3 := cell_of_row w2 wr.heap.size 3 _ _ _ hT; have m0' := frozen_of_row w2 wr.heap.size 0 _ _ hT; have m1' := frozen_of_row w2 wr.heap.size 1 _ _ hT; have m2' := frozen_of_row w2 wr.heap.size 2 _ _ hT; have m3' := frozen_of_row w2 wr.heap.size 3 _ _ hT; have hbx2 := HBX.out.below hb2' (Nat.le_refl _); have t0 := HCK.out w2 (HBL.out.trans (hb2'.mono HBL.out.size)); have HB2 := hide' hb2'; have HD2 := hide' hd2; have HR2 := hide' hr2; obtain ⟨b5, o5, c5, rfl, -, -⟩ := hr2.filled (by simp); obtain ⟨u0, u0'⟩ := hbx2.cell 0; obtain ⟨u1, u1'⟩ := hbx2.cell 1; obtain ⟨u2, u2'⟩ := hbx2.cell 2; obtain ⟨u3, u3'⟩ := hbx2.cell 3; simp only [List.length_singleton] at u1; clear hb2 hb2' hr2 hd2 hk2 he2 hbx2 hT))
            · clear q0 q1 q2 q3 q0' q1' q2' q3' o0
              go_wp2
              go_roundw
              case rel => exact ⟨k + 1, N + x, _, rfl, by go_num, by omega, by omega, by omega, HNX.out w2 _ HR2.out HD2.out HB2.out _⟩
              case measure => simp [intOf]; omega
            · clear q0 q1 q2 q3 q0' q1' q2' q3' o0
              go_wp2
              go_roundw
              case rel =>
                have HD3 : (Value.slice (some ⟨b5, o5, none⟩) [N + x].length c5 = Value.slice (some ⟨bk, ok, none⟩) 1 ck ∧ [N + x] = [N]) ∨ ∀ b, (Value.slice (some ⟨b5, o5, none⟩) [N + x].length c5).ownBlock = some b → wr.heap.size + 1 ≤ b := by
                  rcases HD2.out with hd | hd
                  · exact .inl hd
                  · exact .inr fun b hb => by simpa [World.drew] using hd b hb
                exact ⟨k + 1, N + x, _, rfl, by go_num, by omega, by omega, by omega, HNX2.out w2 _ HR2.out HD3 HB2.out⟩
              case measure => simp [intOf]; omega
          · go_wp2
            go_ret
            exact ⟨rfl, HBL.out⟩
        · go_wp2
          go_ret
          exact ⟨rfl, HBL.out⟩
      · have HBL := hide' hat.out.below
        clear HCALL hat
        go_wp2_with fail
        refine HGET.out.mono ?_
        intro e w3 h3
        obtain ⟨a3, c3, rfl, hr3, hk3, hg3, hb3⟩ := h3.open
        have hs3 := hb3.size
        have HB3 := hide' (HBL.out.trans (hb3.mono HBL.out.size))
        have HB4 : Hid (∀ X, Below w.heap.size w (w3.alloc X)) := fun X => HB3.out.alloc (by omega) X
        clear h3 hr3 hk3 hg3 hb3 q0 q1 q2 q3 q0' q1' q2' q3'
        go_wp2
        go_ret
        exact ⟨rfl, HB4.out _⟩
  · go_wp2
    go_ret
    exact ⟨rfl, HB1.out⟩

theorem own : ownKnob Try.prog.godebug = none := by kernel_rfl
theorem laidOut : laidOutB Try.prog = true := by kernel_rfl

set_option linter.unusedVariables false in
set_option maxRecDepth 100000 in
theorem lifted (os : Os) (started : os.Started) (H : Type) (enc : TypeId × Value → H) :
    ReturnsInHanded {} Try.checked os 3 .any (Rows.objsSumsSpec.pre6 enc Try.prog Try.f3 Rows.objsSumsRow.domain false) (Rows.objsSumsSpec.post enc Try.prog Try.f3 false true false false) := by
  refine returnsInHanded_of_change (C := Try.checked) own started (by kernel_rfl) Try.func3
    (ChangeSpec.witness6 (enc := enc) (C := Try.checked) false ⟨#[], #[.slice none 0 0], []⟩ 8 (by kernel_rfl) (by kernel_rfl) (by kernel_rfl) (by kernel_rfl)) ?_
  intro W base args ds gs before hval0 hW hcnd _
  have hval : ∀ (j : Nat) t v, Try.f3.params[j]? = some t → args[j]? = some v → Value.okWide Try.prog W .any base t v := hval0
  have hW' := hW
  obtain ⟨p, q, hA0, hV, rfl, hfz, hnd⟩ := hW
  have hA : DataW.TrodAll enc Try.prog W 0 (fun _ => true) true Try.f3.params.toList args.toList ds p := hA0
  rw [Try.params3] at hA hval
  obtain ⟨v0, vs0, d0, ds0, p0, q0, hargs, rfl, rfl, h0, r0⟩ := trodAll_cons hA
  obtain ⟨rfl, rfl, rfl⟩ := trodAll_nil r0
  obtain rfl : args = #[v0] := by cases args; simp_all
  obtain ⟨rfl, rfl⟩ := trodVars_none hV
  obtain ⟨a0, len0, cap0, rfl⟩ := okWide_slice Try.underlying22 (hval 0 22 v0 rfl rfl)
  have k0 := h0
  have lt0 : ∀ x ∈ p0, x.block < W.heap.size := by obtain ⟨m, hm⟩ := k0; exact DataW.trod_lt m _ _ _ hm
  obtain ⟨l0, w0⟩ : ∃ l, RdI W (.slice a0 len0 cap0) l := by
    obtain ⟨fuel, hf⟩ := h0
    obtain ⟨v, l, hcs, hr⟩ := open_rdI hf
    simp [Value.cells] at hcs
    subst hcs
    exact ⟨l, hr⟩
  clear hA0 hval0
  refine (walk _ l0 W w0).mono fun e W' ⟨he, bel⟩ => ?_
  subst he
  exact ⟨_, rfl, _, _, _, [], _, [], hW', trodAll_mk1 (shut_bool Try.underlying4 _), (trodAll_cons_mk (Below.trod laidOut (by kernel_rfl) (of_decide_eq_true (by kernel_rfl)) k0 bel lt0) trodAll_mk0), rfl, bel.frame _, fun h => by cases h⟩

theorem over : Rows.objsSumsRow.holds Try.pinned (OpenSpec.ofChange Rows.objsSumsSpec) :=
  OpenClaim.holds_of_wide 3 Try.f3 rfl rfl rfl rfl rfl rfl rfl ⟨rfl, rfl, rfl, rfl, rfl⟩ rfl rfl rfl rfl rfl (by kernel_rfl) Try.func3 (by kernel_rfl)
    (of_decide_eq_true (by kernel_rfl)) (by unfold Func.isWrapper; first | (rw [if_pos (by decide +kernel)]; kernel_rfl) | (rw [if_neg (by decide +kernel)]; exact ⟨rfl, rfl⟩))
    (fun os started H enc _ => lifted os started H enc)

end Go.Proofs.Ytclankoffcfkfab.objsSums
namespace Go.Proofs.Ytclankoffcfkfab

theorem objsSums_holds : Rows.ObjsSumsSaid := objsSums.over

end Go.Proofs.Ytclankoffcfkfab
