/- An access of a machine: a step, and what a function that is handed over makes of the cell. -/
import Derived.Test.YtekkmflfhkdkoaaMachA
import Derived.Deep.DeepCutAuto
namespace Go.Proofs.Ytekkmflfhkdkoaa
open Go.RowKit Go.Maps

theorem accM_out {M : Mc} {q cell : Int} {g : Int → Int} (h : inM cell M.len = false) : accM M q cell g = { M with s := stepM M q } := by
  unfold accM
  rw [h]
  rfl

theorem accM_in {M : Mc} {q cell : Int} {g : Int → Int} (h : inM cell M.len = true) : accM M q cell g = { M with s := stepM M q, c := putF M.c cell (g (M.c cell)) } := by
  unfold accM
  rw [h]
  rfl

theorem accM_id {M : Mc} {q cell : Int} {g : Int → Int} (h : g (M.c cell) = M.c cell) : accM M q cell g = { M with s := stepM M q } := by
  unfold accM
  rw [h, putF_self]
  split <;> rfl

/-- The step is counted. -/
theorem MacL.step {w : World} {p mc ms N : Nat} {M : Mc} (h : MacL w p mc ms M N) (hN : N ≤ 1000000000000) (q : Int) (hq : I64 q) (hin : inM q M.procs = true) :
    ∃ w', (Instr.mapUpdate 43 (.map (some ms)) (.int .i64 q) (.int .i64 (M.s q + 1))).run Try.prog w = .ok () w' ∧ MacL w' p mc ms { M with s := stepM M q } (N + 1) ∧ Only (fun k => k = ms) w w' := by
  have hs := h.ok.s q
  obtain ⟨w', hrun, hm, hg⟩ := h.steps.put hq (x := M.s q + 1) ⟨by omega, by omega⟩ hN
  refine ⟨w', hrun, ⟨h.head.keep (hg.block _ h.head.lt ?_), (h.cells.keep (hg.block _ h.cells.lt ?_)).mono (Nat.le_succ _), ?_, h.ne, h.ok.step q⟩, Only.ofGrown hg fun k hk _ => by cases hk; rfl⟩
  · exact fun e => (h.steps.apart h.head) (Option.some.inj e)
  · exact fun e => h.ne (Option.some.inj e)
  · show MapI w' ms (N + 1) (stepM M q)
    unfold stepM
    rw [if_pos hin]
    exact hm

/-- A cell is changed. -/
theorem MacL.put {w : World} {p mc ms N : Nat} {M : Mc} (h : MacL w p mc ms M N) (N' : Nat) (hN : N ≤ 1000000000000) (hN' : N + 1 ≤ N') (cell x : Int) (hc : I64 cell) (hx : I64 x) (hin : inM cell M.len = true) :
    ∃ w', (Instr.mapUpdate 43 (.map (some mc)) (.int .i64 cell) (.int .i64 x)).run Try.prog w = .ok () w' ∧ MacL w' p mc ms { M with c := putF M.c cell x } N' ∧ Only (fun k => k = mc) w w' := by
  obtain ⟨w', hrun, hm, hg⟩ := h.cells.put hc hx hN
  refine ⟨w', hrun, ⟨h.head.keep (hg.block _ h.head.lt ?_), hm.mono hN', (h.steps.keep (hg.block _ h.steps.lt ?_)).mono (by omega), h.ne, ?_⟩, Only.ofGrown hg fun k hk _ => by cases hk; rfl⟩
  · exact fun e => (h.cells.apart h.head) (Option.some.inj e)
  · exact fun e => h.ne (Option.some.inj e).symm
  · have hk := h.ok.mono (show N ≤ N' by omega)
    refine ⟨hk.procs, hk.len, fun k => ?_, fun k hk0 => ?_, hk.s, hk.s0⟩
    · show I64 (putF M.c cell x k)
      unfold putF
      split
      · exact hx
      · exact hk.c k
    · show putF M.c cell x k = 0
      unfold putF
      split
      · rename_i e
        rw [e] at hin
        exact absurd (hin.symm.trans hk0) (by decide)
      · exact hk.c0 k hk0

set_option maxRecDepth 100000 in
set_option maxHeartbeats 1000000 in
theorem access_any {w : World} {p mc ms N : Nat} {M : Mc} (h : MacL w p mc ms M N) (hN : N ≤ 100000000000) (q cell : Int) (hq : I64 q) (hc : I64 cell) (g : Int → Int) (hgi : I64 (g (M.c cell)))
    (fn : Nat) (cp : Array Value) (eg : ∀ args W, (callFunc fn args).run Try.prog W = .ok (.enter fn args) W)
    (F : Nat → Prop) (hFp : ¬ F p) (hFc : ¬ F mc) (hFs : ¬ F ms) (P0 P1 : World → Prop) (h0 : P0 w) (s0 : ∀ W W', Only (fun k => k = ms) W W' → P0 W → P0 W') (s1 : ∀ W W', Only (fun k => k = mc) W W' → P1 W → P1 W')
    (hF : ∀ W, P0 W → Calls Try.prog fn (#[.int .i64 (M.c cell)] ++ cp) W fun e w' => e = .returned (.int .i64 (g (M.c cell))) ∧ P1 w' ∧ Only F W w') :
    Calls Try.prog 24 #[ptr p, .int .i64 q, .int .i64 cell, .func (.func fn) #[] cp] w fun e w' => e = .returned (.tuple #[]) ∧ MacL w' p mc ms (accM M q cell g) (N + 2) ∧ Only (fun k => k = mc ∨ k = ms ∨ F k) w w' ∧ (inM cell M.len = true → P1 w') ∧ (inM cell M.len = false → P0 w') := by
  have HM := hide h
  have HF := hide hF
  have HS0 := hide s0
  have HS1 := hide s1
  have HP0 := hide h0
  have HQ := hide hq
  have HC := hide hc
  have HGI := hide hgi
  have HFN := hide (And.intro hFp (And.intro hFc hFs))
  have c0 : w.cell? ⟨p, 0, none⟩ = some (.int .i64 M.procs) := (h.head.cell 0 rfl).1
  have c3 : w.cell? ⟨p, 3, none⟩ = some (.map (some ms)) := (h.head.cell 3 rfl).1
  have hl := h.steps.look hq
  have hsb := h.ok.s q
  have hsw : IntKind.i64.wrap (M.s q + 1) = M.s q + 1 := mwrap _ (by omega) (by omega)
  obtain ⟨S, hS⟩ : ∃ S, S = M.s q := ⟨_, rfl⟩
  have HSE := hide hS
  rw [← hS] at hl hsb hsw
  have hsb' : 0 ≤ S ∧ S ≤ 100000000000 := by omega
  clear h hF s0 s1 h0 hq hc hgi hFp hFc hFs hS hsb
  have HI := hide (isOf_any q M.procs w)
  obtain ⟨X, hX⟩ : ∃ X, X = M.c cell := ⟨_, rfl⟩
  obtain ⟨Y, hY⟩ : ∃ Y, Y = g (M.c cell) := ⟨_, rfl⟩
  have HX := hide hX
  have HY := hide hY
  rw [← hY] at HF HGI
  rw [← hX] at HF
  clear hX hY
  have HSO0 := hide (Only.refl (fun k => k = ms) w)
  obtain ⟨w0, hw0⟩ : ∃ w0, w0 = w := ⟨_, rfl⟩
  obtain ⟨b1, hb1⟩ : ∃ b1, b1 = inM q M.procs := ⟨_, rfl⟩
  rw [← hb1] at HI
  have HB1 := hide hb1
  clear hb1
  have HO : Hid (Only (fun k => k = ms) w0 w) := by rw [hw0]; exact HSO0
  have HGO : Calls Try.prog 24 #[ptr p, .int .i64 q, .int .i64 cell, .func (.func fn) #[] cp] w fun e w' => e = .returned (.tuple #[]) ∧ MacL w' p mc ms (accM M q cell g) (N + 2) ∧ Only (fun k => k = mc ∨ k = ms ∨ F k) w0 w' ∧ (inM cell M.len = true → P1 w') ∧ (inM cell M.len = false → P0 w') := by
    clear hw0 HSO0
    go_enter Try.func24, Try.ntmps24
    go_wp2_with fail
    refine HI.out.mono ?_
    rintro e w1 ⟨rfl, rfl⟩
    clear HI
    have H2 : Hid (∃ w2, (b1 = true → (Instr.mapUpdate 43 (.map (some ms)) (.int .i64 q) (.int .i64 (S + 1))).run Try.prog w1 = .ok () w2) ∧ (b1 = false → w2 = w1) ∧ MacL w2 p mc ms { M with s := stepM M q } (N + 1) ∧ Only (fun k => k = ms) w0 w2) := by
      cases b1 with
      | true =>
        obtain ⟨w2, hrun, hm2, ho2⟩ := HM.out.step (by omega) q HQ.out HB1.out.symm
        rw [← HSE.out] at hrun
        exact ⟨w2, (fun _ => hrun), (fun h => by cases h), hm2, HO.out.trans ho2 fun _ _ h => h⟩
      | false =>
        have e : stepM M q = M.s := if_neg (by rw [← HB1.out]; decide)
        exact ⟨w1, (fun h => by cases h), (fun _ => rfl), by rw [e]; exact HM.out.mono (Nat.le_succ N), HO.out⟩
    obtain ⟨w2, hr1, hr2, hm2, ho2⟩ := H2.out
    clear H2
    have HM2 := hide hm2
    have HO2 := hide ho2
    have HP2 : Hid (P0 w2) := by
      cases b1 with
      | true => exact HS0.out w1 w2 (by obtain ⟨w2', hrun, _, ho2'⟩ := HM.out.step (by omega) q HQ.out HB1.out.symm; rw [← HSE.out, hr1 rfl] at hrun; cases hrun; exact ho2') HP0.out
      | false => rw [hr2 rfl]; exact HP0
    have c1 : w2.cell? ⟨p, 1, none⟩ = some (.int .i64 (M.len : Int)) := (hm2.head.cell 1 rfl).1
    have c2 : w2.cell? ⟨p, 2, none⟩ = some (.map (some mc)) := (hm2.head.cell 2 rfl).1
    have hl2 : (Instr.lookup 43 (.map (some mc)) (.int .i64 cell) false).run Try.prog w2 = .ok (.int .i64 X) w2 := by rw [HX.out]; exact hm2.cells.look HC.out
    have HI2 := hide (isOf_any cell (M.len : Int) w2)
    obtain ⟨b2, hb2⟩ : ∃ b2, b2 = inM cell (M.len : Int) := ⟨_, rfl⟩
    rw [← hb2] at HI2
    have HB2 := hide hb2
    clear hb2 hm2 ho2
    have HPC : Hid (∀ W W', Only (fun k => k = mc) W W' → P1 W → P1 W') := HS1
    have HFC : Hid (b2 = true → Calls Try.prog fn (#[.int .i64 X] ++ cp) w2 fun e w' => e = .returned (.int .i64 Y) ∧ P1 w' ∧ Only F w2 w') := hide fun _ => HF.out w2 HP2.out
    have HEND0 : Hid (b2 = false → MacL w2 p mc ms (accM M q cell g) (N + 2) ∧ Only (fun k => k = mc ∨ k = ms ∨ F k) w0 w2 ∧ (inM cell M.len = true → P1 w2) ∧ (inM cell M.len = false → P0 w2)) := hide fun h => by
      have h' : inM cell M.len = false := HB2.out.symm.trans h
      exact ⟨by rw [accM_out h']; exact HM2.out.mono (by omega), HO2.out.mono fun k hk => .inr (.inl hk), (fun hh => absurd (hh.symm.trans h') (by decide)), fun _ => HP2.out⟩
    have HEND1 : Hid (∀ w3, b2 = true → P1 w3 → Only F w2 w3 → (Y = X → MacL w3 p mc ms (accM M q cell g) (N + 2) ∧ Only (fun k => k = mc ∨ k = ms ∨ F k) w0 w3 ∧ (inM cell M.len = true → P1 w3) ∧ (inM cell M.len = false → P0 w3)) ∧
        ∃ w4, (Instr.mapUpdate 43 (.map (some mc)) (.int .i64 cell) (.int .i64 Y)).run Try.prog w3 = .ok () w4 ∧ MacL w4 p mc ms (accM M q cell g) (N + 2) ∧ Only (fun k => k = mc ∨ k = ms ∨ F k) w0 w4 ∧ (inM cell M.len = true → P1 w4) ∧ (inM cell M.len = false → P0 w4)) := hide fun w3 h hp3 ho3 => by
      have h' : inM cell M.len = true := HB2.out.symm.trans h
      have hm3 : MacL w3 p mc ms { M with s := stepM M q } (N + 1) := HM2.out.keep (ho3.block _ HM2.out.head.lt HFN.out.1) (ho3.block _ HM2.out.cells.lt HFN.out.2.1) (ho3.block _ HM2.out.steps.lt HFN.out.2.2)
      have hno : ∀ w, inM cell M.len = false → P0 w := fun w hh => absurd (h'.symm.trans hh) (by decide)
      have hall : Only (fun k => k = mc ∨ k = ms ∨ F k) w0 w3 := (HO2.out.mono fun k hk => .inr (.inl hk)).trans ho3 fun k _ hk => .inr (.inr hk)
      refine ⟨fun e => ⟨?_, hall, fun _ => hp3, hno w3⟩, ?_⟩
      · rw [accM_id (by rw [← HY.out, ← HX.out]; exact e)]
        exact hm3.mono (by omega)
      · obtain ⟨w4, hrun, hm4, ho4⟩ := hm3.put (N + 2) (by omega) (by omega) cell Y HC.out HGI.out h'
        refine ⟨w4, hrun, ?_, hall.trans ho4 (fun k _ hk => .inl hk), fun _ => HPC.out _ _ ho4 hp3, hno w4⟩
        rw [accM_in h', ← HY.out]
        exact hm4
    have HC2 : Hid (∀ w3, Only F w2 w3 → w3.cell? ⟨p, 2, none⟩ = some (.map (some mc))) := hide fun w3 ho => by
      have hlt := HM2.out.head.lt
      rw [World.cell?_of_block (a := ⟨p, 2, none⟩) (ho.block p hlt HFN.out.1)]
      exact (HM2.out.head.cell 2 rfl).1
    clear HF HS0 HS1 HP0 HP2 HM HPC HM2 HO2 HX HY HGI HQ HC HFN HSE HB1 HB2 HO
    cases b1
    case' true =>
      have hrun := hr1 rfl
      clear hr1 hr2
      go_upto_region 2 with fail
    case' false =>
      have hrun := hr2 rfl
      subst hrun
      clear hr1 hr2
      go_upto_region 2 with fail
    all_goals
      try clear hrun
      go_wp2_with fail
      refine HI2.out.mono ?_
      rintro e w3 ⟨rfl, rfl⟩
      clear HI2
      cases b2 with
      | false =>
        go_wp2
        (try simp only [Exit.inBlock, Exit.then])
        refine bodyPost_ret (results_none rfl _ _ _) rfl ?_
        exact ⟨rfl, HEND0.out (by simp)⟩
      | true =>
        clear HEND0
        have HFC2 := hide (HFC.out rfl)
        clear HFC
        go_wp2_with fail
        refine HFC2.out.mono ?_
        rintro e w4 ⟨rfl, hp4, ho4⟩
        have c2' := HC2.out _ ho4
        obtain ⟨he1, w5, hrun5, he2⟩ := HEND1.out _ (by simp) hp4 ho4
        have HE1 := hide he1
        have HE2 := hide he2
        clear he1 he2 hp4 ho4 HC2 HEND1 HFC2 c1 c2 hl2
        by_cases hxy : Y = X
        · have hne : (Y != X) = false := by simp [hxy]
          have HXY := hide hxy
          clear hxy hrun5
          go_wp2
          go_end0
          exact ⟨rfl, HE1.out HXY.out⟩
        · have hne : (Y != X) = true := by simp [hxy]
          clear hxy
          go_wp2
          go_end0
          exact ⟨rfl, HE2.out⟩
  rw [hw0] at HGO
  exact HGO

theorem i64_wrap64 (n : Int) : I64 (wrap64 n) := by
  unfold I64 wrap64
  omega

/-- An access that only reads. -/
def readM (M : Mc) (q : Int) : Mc := { M with s := stepM M q }

def writeM (M : Mc) (q cell n : Int) : Mc := accM M q cell fun _ => n

def swapM (M : Mc) (q cell old new : Int) : Mc := accM M q cell fun x => if x = old then new else x

def addM (M : Mc) (q cell n : Int) : Mc := accM M q cell fun x => wrap64 (x + n)

theorem Bk.only {t : TypeId} {w w' : World} {b : Nat} {cs : Array Value} {F : Nat → Prop} (h : Bk t w b cs) (ho : Only F w w') (hb : ¬ F b) : Bk t w' b cs := h.keep (ho.block _ h.lt hb)

theorem MacL.alloc {w : World} {p mc ms N : Nat} {M : Mc} (h : MacL w p mc ms M N) (o : Obj) : MacL (w.alloc o) p mc ms M N :=
  h.keep (Below.heap_alloc _ _ _ h.head.lt) (Below.heap_alloc _ _ _ h.cells.lt) (Below.heap_alloc _ _ _ h.steps.lt)

set_option maxRecDepth 100000 in
theorem readF_box (X x : Int) (b : Nat) (w : World) (h : Bk 3 w b #[.int .i64 x]) :
    Calls Try.prog 25 #[.int .i64 X, ptr b] w fun e w' => e = .returned (.int .i64 X) ∧ Bk 3 w' b #[.int .i64 X] ∧ Only (fun k => k = b) w w' := by
  have HB := hide h
  obtain ⟨c0, f0⟩ := h.cell 0 rfl
  clear h
  go_enter Try.func25, Try.ntmps25
  go_wp2
  go_ret
  exact ⟨rfl, HB.out.set 0 _, (Only.refl (fun k => k = b) _).setCell 0 (fun _ => rfl) _⟩

set_option maxRecDepth 100000 in
theorem addF_box (X x n : Int) (b c : Nat) (w : World) (h : Bk 3 w b #[.int .i64 x]) (hc : Bk 3 w c #[.int .i64 n]) (hbc : c ≠ b) :
    Calls Try.prog 29 #[.int .i64 X, ptr b, ptr c] w fun e w' => e = .returned (.int .i64 (wrap64 (X + n))) ∧ Bk 3 w' b #[.int .i64 X] ∧ Only (fun k => k = b) w w' := by
  have HB := hide h
  obtain ⟨c0, f0⟩ := h.cell 0 rfl
  have c1 : (w.setCell ⟨b, 0, none⟩ (.int .i64 X)).cell? ⟨c, 0, none⟩ = some (.int .i64 n) := ((hc.other b 0 _ hbc).cell 0 rfl).1
  clear h hc hbc
  go_enter Try.func29, Try.ntmps29
  go_wp2
  go_ret
  exact ⟨rfl, HB.out.set 0 _, (Only.refl (fun k => k = b) _).setCell 0 (fun _ => rfl) _⟩

set_option maxRecDepth 100000 in
theorem writeF_box (X n : Int) (b : Nat) (w : World) (h : Bk 3 w b #[.int .i64 n]) :
    Calls Try.prog 27 #[.int .i64 X, ptr b] w fun e w' => e = .returned (.int .i64 n) ∧ w' = w := by
  obtain ⟨c0, f0⟩ := h.cell 0 rfl
  clear h
  go_enter Try.func27, Try.ntmps27
  go_wp2
  go_ret
  exact ⟨rfl, rfl⟩

set_option maxRecDepth 100000 in
theorem swapF_box (X old new : Int) (x : Bool) (bo bd bn : Nat) (w : World) (ho : Bk 3 w bo #[.int .i64 old]) (hd : Bk 4 w bd #[.bool x]) (hn : Bk 3 w bn #[.int .i64 new]) :
    Calls Try.prog 28 #[.int .i64 X, ptr bo, ptr bd, ptr bn] w fun e w' => e = .returned (.int .i64 (if X = old then new else X)) ∧ Bk 4 w' bd #[.bool (if X = old then true else x)] ∧ Only (fun k => k = bd) w w' := by
  have HB := hide hd
  obtain ⟨c0, -⟩ := ho.cell 0 rfl
  obtain ⟨c1, f1⟩ := hd.cell 0 rfl
  have c2 : (w.setCell ⟨bd, 0, none⟩ (.bool true)).cell? ⟨bn, 0, none⟩ = some (.int .i64 new) := ((hn.other bd 0 _ (hn.ne hd (by decide))).cell 0 rfl).1
  clear ho hd hn
  by_cases h : X = old
  · rw [if_pos h, if_pos h]
    have hne : (X != old) = false := by simp [h]
    clear h
    go_enter Try.func28, Try.ntmps28
    go_wp2
    go_ret
    exact ⟨rfl, HB.out.set 0 _, (Only.refl (fun k => k = bd) _).setCell 0 (fun _ => rfl) _⟩
  · rw [if_neg h, if_neg h]
    have hne : (X != old) = true := by simp [h]
    clear h
    go_enter Try.func28, Try.ntmps28
    go_wp2
    go_ret
    exact ⟨rfl, HB.out, Only.refl _ _⟩

end Go.Proofs.Ytekkmflfhkdkoaa
