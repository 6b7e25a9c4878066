/- Proved: for every sum, all bytes and every two bytes the law CrcLast answers true (and the call leaves all older memory as it was). No condition. -/
import Derived.Test.YthgcgpmdllcdhabCrcAwake
import Derived.OpenShut
import Derived.ChangeOld
namespace Go.Proofs.Ythgcgpmdllcdhab.crcLast
open Go.ChangeShapes Go.WideShapes Go.ChangeAt Go.RowKit

theorem last_plain (s : Nat) (l : List UInt8) (x y : UInt8) (hs : s < 4294967296) : crcMore s (l ++ [x]) = crcMore s (l ++ [y]) ↔ x = y := by
  constructor
  · intro h
    rw [crcMore_append, crcMore_append] at h
    have hx := x.toNat_lt
    have hy := y.toNat_lt
    have h2 : crcByte (crcMore s l ^^^ 4294967295) x.toNat = crcByte (crcMore s l ^^^ 4294967295) y.toNat := not_inj h
    rw [crcByte_ticks _ _ (by omega), crcByte_ticks _ _ (by omega)] at h2
    have hm := not_lt (crcMore_lt l hs)
    have hlt : ∀ z : Nat, z < 256 → (crcMore s l ^^^ 4294967295) ^^^ z < 4294967296 := by
      intro z hz
      have := Nat.xor_lt_two_pow (n := 32) (by omega : (crcMore s l ^^^ 4294967295) < 2 ^ 32) (by omega : z < 2 ^ 32)
      omega
    have h3 := ticks_inj 8 (hlt _ (by omega)) (hlt _ (by omega)) h2
    rw [Nat.xor_comm _ x.toNat, Nat.xor_comm _ y.toNat] at h3
    exact UInt8.toNat_inj.1 (xor_right h3)
  · intro h
    rw [h]

/-- One byte laid down, as bytes. -/
theorem rd_one (w : World) (x : UInt8) (X : Int) (hX : X = (x.toNat : Int)) : Rd (w.alloc (.cells #[.int .u8 X] 5)) (.slice (some ⟨w.heap.size, 0, none⟩) 1 1) [x] := by
  subst hX
  refine ⟨_, 1, rfl, Nat.le_refl _, by decide, (fun e => by cases e), .inr ⟨_, _, rfl, ?_⟩⟩
  intro j hj
  match j, hj with
  | 0, _ => simp

set_option maxRecDepth 100000 in
set_option maxHeartbeats 1000000 in
theorem walk (s : Int) (v : Value) (l : List UInt8) (x y : Int) (w : World) (w0 : (Lit.int .u32 s).wf = true) (hr : Rd w v l) (w2 : (Lit.int .u8 x).wf = true) (w3 : (Lit.int .u8 y).wf = true) :
    Calls Try.prog 3 #[.int .u32 s, v, .int .u8 x, .int .u8 y] w fun e w' => e = .returned (.bool true) ∧ Below w.heap.size w w' := by
  obtain ⟨hs0, hs1⟩ := u32_bd w0
  obtain ⟨hx0, hx1⟩ := u8_bd w2
  obtain ⟨hy0, hy1⟩ := u8_bd w3
  clear w0 w2 w3
  have HA := hide (awake_any w)
  have HR := hide hr
  obtain ⟨ao, cap, rfl, hlc, hcm, _, _⟩ := hr
  by_cases hl : (3000 : Int) < (l.length : Int)
  · go_enter Try.func3, Try.ntmps3
    go_wp2_with fail
    refine HA.out.mono ?_
    rintro e w1 ⟨rfl, hb⟩
    have HB := hide hb
    clear hb HA HR
    go_wp2
    go_ret
    exact ⟨rfl, HB.out⟩
  · obtain ⟨S, hS⟩ : ∃ S : Nat, s = (S : Int) := Int.eq_ofNat_of_zero_le hs0
    obtain ⟨bx, hbx⟩ : ∃ b : UInt8, x = (b.toNat : Int) := ⟨UInt8.ofNat x.toNat, by rw [UInt8.toNat_ofNat']; omega⟩
    obtain ⟨cy, hcy⟩ : ∃ b : UInt8, y = (b.toNat : Int) := ⟨UInt8.ofNat y.toNat, by rw [UInt8.toNat_ofNat']; omega⟩
    have C0 : Hid (∀ w1, Calls Try.prog 6 #[.int .u32 s, .slice none 0 0] w1 fun e w' => e = .returned (.int .u32 s) ∧ Below w1.heap.size w1 w') := by
      intro w1
      have h := more_any S _ [] w1 (Rd.nil _) (by omega)
      rw [crcMore_nil, ← hS] at h
      exact h
    have CP : Hid (∀ (v : Value) (w1 : World) (L : List UInt8), Rd w1 v L → Calls Try.prog 6 #[.int .u32 s, v] w1 fun e w' => e = .returned (.int .u32 (crcMore S L : Nat)) ∧ Below w1.heap.size w1 w') := by
      intro v w1 L h; rw [hS]; exact more_any S v L w1 h (by omega)
    have hp := last_plain S l bx cy (by omega)
    obtain ⟨X, hX⟩ : ∃ X : Int, X = ((crcMore S (l ++ [bx]) : Nat) : Int) := ⟨_, rfl⟩
    obtain ⟨Y, hY⟩ : ∃ Y : Int, Y = ((crcMore S (l ++ [cy]) : Nat) : Int) := ⟨_, rfl⟩
    have heq : (X == Y) = (x == y) := by
      rw [Bool.eq_iff_iff, beq_iff_eq, beq_iff_eq]
      constructor
      · intro h
        rw [hbx, hcy, hp.1 (by omega)]
      · intro h
        have : bx = cy := UInt8.toNat_inj.1 (by omega)
        rw [hX, hY, this]
    have CX : Hid (∀ (v : Value) (w1 : World), Rd w1 v (l ++ [bx]) → Calls Try.prog 6 #[.int .u32 s, v] w1 fun e w' => e = .returned (.int .u32 X) ∧ Below w1.heap.size w1 w') := by
      intro v w1 h; rw [hX]; exact CP.out v w1 _ h
    have CY : Hid (∀ (v : Value) (w1 : World), Rd w1 v (l ++ [cy]) → Calls Try.prog 6 #[.int .u32 s, v] w1 fun e w' => e = .returned (.int .u32 Y) ∧ Below w1.heap.size w1 w') := by
      intro v w1 h; rw [hY]; exact CP.out v w1 _ h
    have RX := hide (fun w => rd_one w bx x hbx)
    have RY := hide (fun w => rd_one w cy y hcy)
    clear hS hbx hcy hX hY hp CP
    go_enter Try.func3, Try.ntmps3
    go_wp2_with fail
    refine HA.out.mono ?_
    rintro e w1 ⟨rfl, hb⟩
    have HB1 := hide hb
    clear hb HA
    have hs1 := HB1.out.size
    go_wp2_with (at_builtin; refine wpList_append_rd _ rfl _ _ rfl w1.heap.size _ [] rfl (Own.nil _ _) _ l rfl (HR.out.below HB1.out (Nat.le_refl _)) (by simp; omega) (Nat.le_refl _) ?_)
    intro v2 w2 ho2 hb2
    have HB2 := hide (HB1.out.trans (hb2.mono hs1))
    have HO2 := hide ho2
    have hs2 := hb2.size
    clear ho2 hb2
    go_wp2_with (at_builtin; refine wpList_append_rd _ rfl _ _ rfl w1.heap.size _ l rfl (World.ownsRow.alloc HO2.out _) _ [bx] rfl (RX.out _) (by simp; omega) (by simp; omega) ?_)
    intro v3 w3 ho3 hb3
    have HB3 := hide ((HB2.out.alloc (by omega) _).trans (hb3.mono hs1))
    have HR3 := hide ho3.rd
    have hs3 := hb3.size
    simp at hs3
    clear ho3 hb3 HO2
    go_wp2_with (at_builtin; refine wpList_append_rd _ rfl _ _ rfl w3.heap.size _ [] rfl (Own.nil _ _) _ l rfl (HR.out.below HB3.out (Nat.le_refl _)) (by simp; omega) (Nat.le_refl _) ?_)
    intro v4 w4 ho4 hb4
    have HB4 := hide (HB3.out.trans (hb4.mono (by omega)))
    have HO4 := hide ho4
    have H34 := hide hb4
    have hs4 := hb4.size
    clear ho4 hb4
    go_wp2_with (at_builtin; refine wpList_append_rd _ rfl _ _ rfl w3.heap.size _ l rfl (World.ownsRow.alloc HO4.out _) _ [cy] rfl (RY.out _) (by simp; omega) (by simp; omega) ?_)
    intro v5 w5 ho5 hb5
    have HB5 := hide ((HB4.out.alloc (by omega) _).trans (hb5.mono (by omega)))
    have HR5 := hide ho5.rd
    have HR35 := hide (HR3.out.below ((H34.out.alloc hs4 _).trans hb5) (Nat.le_refl _))
    clear ho5 hb5 HO4 H34 HR3 hs1 hs2 hs3 hs4
    go_wp2_with fail
    refine (C0.out _).mono ?_
    rintro e w6 ⟨rfl, hb6⟩
    have HB6 := hide (HB5.out.trans (hb6.mono HB5.out.size))
    have HR36 := hide (HR35.out.below hb6 (Nat.le_refl _))
    have HR56 := hide (HR5.out.below hb6 (Nat.le_refl _))
    clear hb6
    go_wp2_with fail
    refine (CX.out _ _ HR36.out).mono ?_
    rintro e w7 ⟨rfl, hb7⟩
    have HB7 := hide (HB6.out.trans (hb7.mono HB6.out.size))
    have HR57 := hide (HR56.out.below hb7 (Nat.le_refl _))
    clear hb7
    go_wp2_with fail
    refine (CY.out _ _ HR57.out).mono ?_
    rintro e w8 ⟨rfl, hb8⟩
    have HB8 := hide (HB7.out.trans (hb8.mono HB7.out.size))
    clear hb8
    go_wp2
    go_ret
    exact ⟨rfl, HB8.out⟩

theorem own : ownKnob Try.prog.godebug = none := by kernel_rfl
theorem laidOut : laidOutB Try.prog = true := by kernel_rfl

set_option linter.unusedVariables false in
set_option maxRecDepth 100000 in
theorem lifted (os : Os) (started : os.Started) (H : Type) (enc : TypeId × Value → H) :
    ReturnsInHanded {} Try.checked os 3 .any (Rows.crcLastSpec.pre6 enc Try.prog Try.f3 Rows.crcLastRow.domain false) (Rows.crcLastSpec.post enc Try.prog Try.f3 false true false false) := by
  refine returnsInHanded_of_change (C := Try.checked) own started (by kernel_rfl) Try.func3
    (ChangeSpec.witness6 (enc := enc) (C := Try.checked) false ⟨#[], #[.int .u32 0, .slice none 0 0, .int .u8 0, .int .u8 0], []⟩ 8 (by kernel_rfl) (by kernel_rfl) (by kernel_rfl) (by kernel_rfl)) ?_
  intro W base args ds gs before hval0 hW hcnd _
  have hval : ∀ (j : Nat) t v, Try.f3.params[j]? = some t → args[j]? = some v → Value.okWide Try.prog W .any base t v := hval0
  have hW' := hW
  obtain ⟨p, q, hA0, hV, rfl, hfz, hnd⟩ := hW
  have hA : DataW.TrodAll enc Try.prog W 0 (fun _ => true) true Try.f3.params.toList args.toList ds p := hA0
  rw [Try.params3] at hA hval
  obtain ⟨v0, vs0, d0, ds0, p0, q0, hargs, rfl, rfl, h0, r0⟩ := trodAll_cons hA
  obtain ⟨v1, vs1, d1, ds1, p1, q1, rfl, rfl, rfl, h1, r1⟩ := trodAll_cons r0
  obtain ⟨v2, vs2, d2, ds2, p2, q2, rfl, rfl, rfl, h2, r2⟩ := trodAll_cons r1
  obtain ⟨v3, vs3, d3, ds3, p3, q3, rfl, rfl, rfl, h3, r3⟩ := trodAll_cons r2
  obtain ⟨rfl, rfl, rfl⟩ := trodAll_nil r3
  obtain rfl : args = #[v0, v1, v2, v3] := by cases args; simp_all
  obtain ⟨rfl, rfl⟩ := trodVars_none hV
  obtain ⟨a0, rfl, rfl, rfl, w0⟩ := open_int Try.underlying22 (hval 0 22 v0 rfl rfl) h0
  obtain ⟨a1, len1, cap1, rfl⟩ := okWide_slice Try.underlying23 (hval 1 23 v1 rfl rfl)
  have k1 := h1
  have lt1 : ∀ x ∈ p1, x.block < W.heap.size := by obtain ⟨m, hm⟩ := k1; exact DataW.trod_lt m _ _ _ hm
  obtain ⟨l1, w1⟩ : ∃ l, Rd W (.slice a1 len1 cap1) l := by
    obtain ⟨fuel, hf⟩ := h1
    rcases open_ints Try.underlying23 Try.underlying5 (by kernel_rfl) hf with ⟨hcs, _⟩ | ⟨x, l, c, zs, hcs, _, hl, hm, hz, _, hcell, hwz⟩
    · simp [Value.cells] at hcs
      obtain ⟨rfl, rfl, rfl⟩ := hcs
      exact ⟨[], Rd.nil _⟩
    · simp [Value.cells] at hcs
      obtain ⟨rfl, rfl, rfl⟩ := hcs
      exact ⟨_, Rd.ofRow hl hm (by simpa using hz) hcell hwz⟩
  obtain ⟨a2, rfl, rfl, rfl, w2⟩ := open_int Try.underlying5 (hval 2 5 v2 rfl rfl) h2
  obtain ⟨a3, rfl, rfl, rfl, w3⟩ := open_int Try.underlying5 (hval 3 5 v3 rfl rfl) h3
  clear hA0 hval0
  refine (walk a0 _ l1 a2 a3 W w0 w1 w2 w3).mono fun e W' ⟨he, bel⟩ => ?_
  subst he
  exact ⟨_, rfl, _, _, _, [], _, [], hW', trodAll_mk1 (shut_bool Try.underlying4 _), (trodAll_cons_mk (shut_int Try.underlying22 w0) (trodAll_cons_mk (Below.trod laidOut (by kernel_rfl) (of_decide_eq_true (by kernel_rfl)) k1 bel lt1) (trodAll_cons_mk (shut_int Try.underlying5 w2) (trodAll_cons_mk (shut_int Try.underlying5 w3) trodAll_mk0)))), rfl, bel.frame _, fun h => by cases h⟩

theorem over : Rows.crcLastRow.holds Try.pinned (OpenSpec.ofChange Rows.crcLastSpec) :=
  OpenClaim.holds_of_wide 3 Try.f3 rfl rfl rfl rfl rfl rfl rfl ⟨rfl, rfl, rfl, rfl, rfl⟩ rfl rfl rfl rfl rfl (by kernel_rfl) Try.func3 (by kernel_rfl)
    (of_decide_eq_true (by kernel_rfl)) (by unfold Func.isWrapper; first | (rw [if_pos (by decide +kernel)]; kernel_rfl) | (rw [if_neg (by decide +kernel)]; exact ⟨rfl, rfl⟩))
    (fun os started H enc _ => lifted os started H enc)

end Go.Proofs.Ythgcgpmdllcdhab.crcLast
namespace Go.Proofs.Ythgcgpmdllcdhab

theorem crcLast_holds : Rows.CrcLastSaid := crcLast.over

end Go.Proofs.Ythgcgpmdllcdhab
