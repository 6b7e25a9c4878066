/- Proved: for every two numbers and all bytes the law NumBack answers true (and the call leaves all older memory as it was). No condition. -/
import Derived.Test.YtblfmhkpogjokaaNumAwake
import Derived.Test.YtblfmhkpogjokaaNumApp
import Derived.OpenShut
import Derived.ChangeOld
namespace Go.Proofs.Ytblfmhkpogjokaa.numBack
open Go.ChangeShapes Go.WideShapes Go.ChangeAt Go.RowKit

/-- Bytes that are made: a call answers them, its own, and nothing older turns. -/
def Makes (f : Nat) (args : Array Value) (w : World) (l : List UInt8) : Prop :=
  Calls Try.prog f args w fun e w' => ∃ ao cap, e = .returned (.slice ao l.length cap) ∧ Own w' w.heap.size (.slice ao l.length cap) l ∧ Below w.heap.size w w'

theorem Makes.of {f : Nat} {args : Array Value} {w : World} {l : List UInt8} (h : Calls Try.prog f args w fun e w' => ∃ v', e = .returned v' ∧ Own w' w.heap.size v' l ∧ Below w.heap.size w w') : Makes f args w l := by
  refine Calls.mono h ?_
  rintro e w' ⟨v', rfl, ho, hb⟩
  obtain ⟨ao, cap, rfl, _⟩ := ho.rd
  exact ⟨ao, cap, rfl, ho, hb⟩

theorem zag_back (n : Int) (h0 : -9223372036854775808 ≤ n) (h1 : n ≤ 9223372036854775807) (w : World) :
    Calls Try.prog 19 #[.int .u64 ((Lib.zigzag n : Nat) : Int)] w fun e w' => e = .returned (.int .i64 n) ∧ w' = w := by
  have h := zag_any (Lib.zigzag n) w (Lib.zigzag_lt h0 h1)
  rwa [zag_zigzag n h0 h1] at h

theorem zig_back (u : Nat) (h : u < 18446744073709551616) (w : World) :
    Calls Try.prog 17 #[.int .i64 (zag u)] w fun e w' => e = .returned (.int .u64 (u : Int)) ∧ w' = w := by
  have hz := zag_range u h
  have h := zig_any (zag u) w hz.1 hz.2
  rwa [zigzag_zag u] at h

theorem leNat8 (u : Nat) (h : u < 18446744073709551616) : Lib.leNat ((Lib.leBytes 8 u).take 8) = u := by
  rw [List.take_of_length_le (by rw [Lib.leBytes_length]; exact Nat.le_refl _)]
  exact Lib.leNat_leBytes 8 u (by omega)

theorem leNat4 (u : Nat) (h : u < 4294967296) : Lib.leNat ((Lib.leBytes 4 u).take 8) = u := by
  rw [List.take_of_length_le (by rw [Lib.leBytes_length]; decide)]
  exact Lib.leNat_leBytes 4 u (by omega)

set_option maxRecDepth 100000 in
set_option maxHeartbeats 2000000 in
theorem walk (n u : Int) (vm : Value) (m : List UInt8) (w : World) (w0 : (Lit.int .i64 n).wf = true) (w1 : (Lit.int .u64 u).wf = true) (hr : Rd w vm m) :
    Calls Try.prog 5 #[.int .i64 n, .int .u64 u, vm] w fun e w' => e = .returned (.bool true) ∧ Below w.heap.size w w' := by
  obtain ⟨hn0, hn1⟩ := i64_bd w0
  obtain ⟨hu0, hu1⟩ := u64_bd w1
  clear w0 w1
  have HA := hide (awake_any w)
  have HR := hide hr
  obtain ⟨ao, cap, rfl, hlc, hcm, _, _⟩ := hr
  by_cases hl : (100 : Int) < (m.length : Int)
  · go_enter Try.func5, Try.ntmps5
    go_wp2_with fail
    refine HA.out.mono ?_
    rintro e w1 ⟨rfl, hb⟩
    have HB := hide hb
    clear hb HA HR
    go_wp2
    go_ret
    exact ⟨rfl, HB.out⟩
  · obtain ⟨N, hN⟩ : ∃ N : Nat, u = (N : Int) := Int.eq_ofNat_of_zero_le hu0
    have PX : Hid (∀ w, Makes 10 #[.slice none 0 0, .int .i64 n] w (putOf [] n)) := fun w => Makes.of (put_any _ [] n w (Rd.nil _) (by decide))
    have PY : Hid (∀ w, Makes 12 #[.slice none 0 0, .int .i64 n] w (Lib.uvarint (Lib.zigzag n))) := fun w => Makes.of (putSigned_any _ [] n w (Rd.nil _) (by decide) hn0 hn1)
    have PG : Hid (∀ (v : Value) (w : World), Rd w v (Lib.uvarint (Lib.zigzag n) ++ m) → Calls Try.prog 23 #[v] w fun e w' => e = .returned (.tuple #[.int .i64 n, .int .i64 ((Lib.uvarint (Lib.zigzag n)).length : Nat)]) ∧ w' = w) := by
      intro v w h
      have h2 := getSigned_any v _ w h
      rw [dec64_uvarint _ _ (Lib.zigzag_lt hn0 hn1), zag_zigzag n hn0 hn1] at h2
      exact h2
    have HYL : (Lib.uvarint (Lib.zigzag n)).length ≤ 10 := Lib.uvarint_length64 (Lib.zigzag_lt hn0 hn1)
    have Z1 := hide (fun w => zig_any n w hn0 hn1)
    have Z2 := hide (fun w => zag_back n hn0 hn1 w)
    have Z3 : Hid (∀ w, Calls Try.prog 19 #[.int .u64 u] w fun e w' => e = .returned (.int .i64 (zag N)) ∧ w' = w) := by
      intro w; rw [hN]; exact zag_any N w (by omega)
    have Z4 : Hid (∀ w, Calls Try.prog 17 #[.int .i64 (zag N)] w fun e w' => e = .returned (.int .u64 u) ∧ w' = w) := by
      intro w; rw [hN]; exact zig_back N (by omega) w
    have F8 : Hid (∀ w, Makes 16 #[.int .u64 u] w (Lib.leBytes 8 N)) := by
      intro w; rw [hN]; exact Makes.of (fixed64_any N w)
    have F4 : Hid (∀ w, Makes 14 #[.int .u32 (u % 4294967296)] w (Lib.leBytes 4 (N % 4294967296))) := by
      intro w
      have e : u % 4294967296 = ((N % 4294967296 : Nat) : Int) := by omega
      rw [e]; exact Makes.of (fixed32_any _ w (by omega))
    have E8 : Hid (∀ (v : Value) (w : World), Rd w v (Lib.leBytes 8 N) → Calls Try.prog 25 #[v] w fun e w' => e = .returned (.int .u64 u) ∧ w' = w) := by
      intro v w h
      have h2 := fixed_any v _ w h
      rw [leNat8 N (by omega), ← hN] at h2
      exact h2
    have E4 : Hid (∀ (v : Value) (w : World), Rd w v (Lib.leBytes 4 (N % 4294967296)) → Calls Try.prog 25 #[v] w fun e w' => e = .returned (.int .u64 (u % 4294967296)) ∧ w' = w) := by
      intro v w h
      have h2 := fixed_any v _ w h
      have e : u % 4294967296 = ((N % 4294967296 : Nat) : Int) := by omega
      rw [leNat4 _ (by omega), ← e] at h2
      exact h2
    clear hN
    generalize zag N = zN at *
    generalize Lib.leBytes 8 N = l8 at *
    generalize Lib.leBytes 4 (N % 4294967296) = l4 at *
    generalize Lib.uvarint (Lib.zigzag n) = Y at *
    obtain ⟨zn, hzn⟩ : ∃ z : Int, z = ((Lib.zigzag n : Nat) : Int) := ⟨_, rfl⟩
    rw [← hzn] at Z1 Z2
    clear hzn
    obtain ⟨G, GL, hxl, hgf⟩ : ∃ G GL : Int, (putOf [] n).length ≤ 10 ∧ (Hid (∀ (v : Value) (w : World), Rd w v (putOf [] n ++ m) → Calls Try.prog 21 #[v] w fun e w' => e = .returned (.tuple #[.int .i64 G, .int .i64 GL]) ∧ w' = w) ∧
        ((0 ≤ n ∧ n < 4611686018427387904 ∧ G = n ∧ GL = ((putOf [] n).length : Int) ∧ 0 < (putOf [] n).length) ∨ (¬ (0 ≤ n ∧ n < 4611686018427387904) ∧ (putOf [] n).length = 0))) := by
      by_cases hf : 0 ≤ n ∧ n < 4611686018427387904
      · have e : putOf [] n = Lib.uvarint n.toNat := if_pos hf
        refine ⟨n, ((putOf [] n).length : Int), by rw [e]; exact Lib.uvarint_length64 (by omega), ?_, .inl ⟨hf.1, hf.2, rfl, rfl, by rw [e]; exact Lib.uvarint_pos _⟩⟩
        intro v w h
        have h2 := get_any v _ w h
        rw [e] at h2 ⊢
        rw [dec62_uvarint _ _ (by omega)] at h2
        have en : ((n.toNat : Nat) : Int) = n := by omega
        simp only [en] at h2
        exact h2
      · have e : putOf [] n = [] := if_neg hf
        exact ⟨_, _, by rw [e]; decide, fun v w h => get_any v _ w h, .inr ⟨hf, by rw [e]; rfl⟩⟩
    obtain ⟨PGX, hgf⟩ := hgf
    generalize putOf [] n = X at *
    have HGF := hide hgf
    clear hgf
    go_enter Try.func5, Try.ntmps5
    go_wp2_with fail
    refine HA.out.mono ?_
    rintro e w1 ⟨rfl, hb⟩
    have HB1 := hide hb
    clear hb HA
    go_wp2_with fail
    refine (PX.out _).mono ?_
    rintro e w2 ⟨ao2, cap2, rfl, ho2, hb2⟩
    have HB2 := hide (HB1.out.trans (hb2.mono HB1.out.size))
    have HO2 := hide ho2
    clear ho2 hb2
    go_wp2_with (at_builtin; refine wpList_append_rd _ rfl _ _ rfl w2.heap.size _ [] rfl (Own.nil _ _) _ X rfl HO2.out.rd (by simp; omega) (Nat.le_refl _) ?_)
    intro v3 w3 ho3 hb3
    have HO3 := hide ho3
    have HB3 := hide (HB2.out.trans (hb3.mono HB2.out.size))
    have hs3 := hb3.size
    have hs2 := HB2.out.size
    clear ho3 hb3
    go_wp2_with (at_builtin; refine wpList_append_rd _ rfl _ _ rfl w2.heap.size _ X rfl HO3.out _ m rfl (HR.out.below HB3.out (Nat.le_refl _)) (by omega) (by omega) ?_)
    intro v4 w4 ho4 hb4
    have HO4 := hide ho4
    have HB4 := hide (HB3.out.trans (hb4.mono hs2))
    clear ho4 hb4
    go_wp2_with fail
    refine (PGX.out _ _ HO4.out.rd).mono ?_
    rintro e w5 ⟨rfl, rfl⟩
    go_wp2_with fail
    refine (PY.out _).mono ?_
    rintro e w6 ⟨ao6, cap6, rfl, ho6, hb6⟩
    have HB6 := hide (HB4.out.trans (hb6.mono HB4.out.size))
    have HO6 := hide ho6
    clear ho6 hb6 hs2 hs3
    go_wp2_with (at_builtin; refine wpList_append_rd _ rfl _ _ rfl w6.heap.size _ [] rfl (Own.nil _ _) _ Y rfl HO6.out.rd (by simp; omega) (Nat.le_refl _) ?_)
    intro v7 w7 ho7 hb7
    have HO7 := hide ho7
    have HB7 := hide (HB6.out.trans (hb7.mono HB6.out.size))
    have hs7 := hb7.size
    have hs6 := HB6.out.size
    clear ho7 hb7
    go_wp2_with (at_builtin; refine wpList_append_rd _ rfl _ _ rfl w6.heap.size _ Y rfl HO7.out _ m rfl (HR.out.below HB7.out (Nat.le_refl _)) (by omega) (by omega) ?_)
    intro v8 w8 ho8 hb8
    have HO8 := hide ho8
    have HB8 := hide (HB7.out.trans (hb8.mono hs6))
    clear ho8 hb8 hs6 hs7
    go_wp2_with fail
    refine (PG.out _ _ HO8.out.rd).mono ?_
    rintro e w9 ⟨rfl, rfl⟩
    clear HO2 HO3 HO4 HO6 HO7 HO8 HB2 HB3 HB4 HB6 HB7 PX PY PG PGX HR
    rcases HGF.out with ⟨f0, f1, rfl, rfl, f3⟩ | ⟨hf, fx⟩
    · have fd : (0 : Int) < (X.length : Int) := by omega
      clear HGF
      go_wp2_with fail
      refine (Z1.out _).mono ?_
      rintro e w10 ⟨rfl, rfl⟩
      go_wp2_with fail
      refine (Z2.out _).mono ?_
      rintro e w11 ⟨rfl, rfl⟩
      go_wp2_with fail
      refine (Z3.out _).mono ?_
      rintro e w12 ⟨rfl, rfl⟩
      go_wp2_with fail
      refine (Z4.out _).mono ?_
      rintro e w13 ⟨rfl, rfl⟩
      go_wp2_with fail
      refine (F8.out _).mono ?_
      rintro e w14 ⟨ao14, cap14, rfl, ho14, hb14⟩
      have HB14 := hide (HB8.out.trans (hb14.mono HB8.out.size))
      have HO14 := hide ho14
      clear ho14 hb14
      go_wp2_with fail
      refine (E8.out _ _ HO14.out.rd).mono ?_
      rintro e w15 ⟨rfl, rfl⟩
      go_wp2_with fail
      refine (F4.out _).mono ?_
      rintro e w16 ⟨ao16, cap16, rfl, ho16, hb16⟩
      have HB16 := hide (HB14.out.trans (hb16.mono HB14.out.size))
      have HO16 := hide ho16
      clear ho16 hb16
      go_wp2_with fail
      refine (E4.out _ _ HO16.out.rd).mono ?_
      rintro e w17 ⟨rfl, rfl⟩
      go_wp2
      go_ret
      exact ⟨rfl, HB16.out⟩
    · clear HGF
      generalize hq : X.length = q at *
      subst fx
      clear hq
      by_cases hneg : n < 0
      · clear hf
        go_wp2_with fail
        refine (Z1.out _).mono ?_
        rintro e w10 ⟨rfl, rfl⟩
        go_wp2_with fail
        refine (Z2.out _).mono ?_
        rintro e w11 ⟨rfl, rfl⟩
        go_wp2_with fail
        refine (Z3.out _).mono ?_
        rintro e w12 ⟨rfl, rfl⟩
        go_wp2_with fail
        refine (Z4.out _).mono ?_
        rintro e w13 ⟨rfl, rfl⟩
        go_wp2_with fail
        refine (F8.out _).mono ?_
        rintro e w14 ⟨ao14, cap14, rfl, ho14, hb14⟩
        have HB14 := hide (HB8.out.trans (hb14.mono HB8.out.size))
        have HO14 := hide ho14
        clear ho14 hb14
        go_wp2_with fail
        refine (E8.out _ _ HO14.out.rd).mono ?_
        rintro e w15 ⟨rfl, rfl⟩
        go_wp2_with fail
        refine (F4.out _).mono ?_
        rintro e w16 ⟨ao16, cap16, rfl, ho16, hb16⟩
        have HB16 := hide (HB14.out.trans (hb16.mono HB14.out.size))
        have HO16 := hide ho16
        clear ho16 hb16
        go_wp2_with fail
        refine (E4.out _ _ HO16.out.rd).mono ?_
        rintro e w17 ⟨rfl, rfl⟩
        go_wp2
        go_ret
        exact ⟨rfl, HB16.out⟩
      · have hbig : 4611686018427387904 ≤ n := by omega
        clear hf
        go_wp2_with fail
        refine (Z1.out _).mono ?_
        rintro e w10 ⟨rfl, rfl⟩
        go_wp2_with fail
        refine (Z2.out _).mono ?_
        rintro e w11 ⟨rfl, rfl⟩
        go_wp2_with fail
        refine (Z3.out _).mono ?_
        rintro e w12 ⟨rfl, rfl⟩
        go_wp2_with fail
        refine (Z4.out _).mono ?_
        rintro e w13 ⟨rfl, rfl⟩
        go_wp2_with fail
        refine (F8.out _).mono ?_
        rintro e w14 ⟨ao14, cap14, rfl, ho14, hb14⟩
        have HB14 := hide (HB8.out.trans (hb14.mono HB8.out.size))
        have HO14 := hide ho14
        clear ho14 hb14
        go_wp2_with fail
        refine (E8.out _ _ HO14.out.rd).mono ?_
        rintro e w15 ⟨rfl, rfl⟩
        go_wp2_with fail
        refine (F4.out _).mono ?_
        rintro e w16 ⟨ao16, cap16, rfl, ho16, hb16⟩
        have HB16 := hide (HB14.out.trans (hb16.mono HB14.out.size))
        have HO16 := hide ho16
        clear ho16 hb16
        go_wp2_with fail
        refine (E4.out _ _ HO16.out.rd).mono ?_
        rintro e w17 ⟨rfl, rfl⟩
        go_wp2
        go_ret
        exact ⟨rfl, HB16.out⟩

theorem own : ownKnob Try.prog.godebug = none := by kernel_rfl
theorem laidOut : laidOutB Try.prog = true := by kernel_rfl

set_option linter.unusedVariables false in
set_option maxRecDepth 100000 in
theorem lifted (os : Os) (started : os.Started) (H : Type) (enc : TypeId × Value → H) :
    ReturnsInHanded {} Try.checked os 5 .any (Rows.numBackSpec.pre6 enc Try.prog Try.f5 Rows.numBackRow.domain false) (Rows.numBackSpec.post enc Try.prog Try.f5 false true false false) := by
  refine returnsInHanded_of_change (C := Try.checked) own started (by kernel_rfl) Try.func5
    (ChangeSpec.witness6 (enc := enc) (C := Try.checked) false ⟨#[], #[.int .i64 0, .int .u64 0, .slice none 0 0], []⟩ 8 (by kernel_rfl) (by kernel_rfl) (by kernel_rfl) (by kernel_rfl)) ?_
  intro W base args ds gs before hval0 hW hcnd _
  have hval : ∀ (j : Nat) t v, Try.f5.params[j]? = some t → args[j]? = some v → Value.okWide Try.prog W .any base t v := hval0
  have hW' := hW
  obtain ⟨p, q, hA0, hV, rfl, hfz, hnd⟩ := hW
  have hA : DataW.TrodAll enc Try.prog W 0 (fun _ => true) true Try.f5.params.toList args.toList ds p := hA0
  rw [Try.params5] at hA hval
  obtain ⟨v0, vs0, d0, ds0, p0, q0, hargs, rfl, rfl, h0, r0⟩ := trodAll_cons hA
  obtain ⟨v1, vs1, d1, ds1, p1, q1, rfl, rfl, rfl, h1, r1⟩ := trodAll_cons r0
  obtain ⟨v2, vs2, d2, ds2, p2, q2, rfl, rfl, rfl, h2, r2⟩ := trodAll_cons r1
  obtain ⟨rfl, rfl, rfl⟩ := trodAll_nil r2
  obtain rfl : args = #[v0, v1, v2] := by cases args; simp_all
  obtain ⟨rfl, rfl⟩ := trodVars_none hV
  obtain ⟨a0, rfl, rfl, rfl, w0⟩ := open_int Try.underlying3 (hval 0 3 v0 rfl rfl) h0
  obtain ⟨a1, rfl, rfl, rfl, w1⟩ := open_int Try.underlying23 (hval 1 23 v1 rfl rfl) h1
  obtain ⟨a2, len2, cap2, rfl⟩ := okWide_slice Try.underlying22 (hval 2 22 v2 rfl rfl)
  have k2 := h2
  have lt2 : ∀ x ∈ p2, x.block < W.heap.size := by obtain ⟨m, hm⟩ := k2; exact DataW.trod_lt m _ _ _ hm
  obtain ⟨l2, w2⟩ : ∃ l, Rd W (.slice a2 len2 cap2) l := by
    obtain ⟨fuel, hf⟩ := h2
    rcases open_ints Try.underlying22 Try.underlying5 (by kernel_rfl) hf with ⟨hcs, _⟩ | ⟨x, l, c, zs, hcs, _, hl, hm, hz, _, hcell, hwz⟩
    · simp [Value.cells] at hcs
      obtain ⟨rfl, rfl, rfl⟩ := hcs
      exact ⟨[], Rd.nil _⟩
    · simp [Value.cells] at hcs
      obtain ⟨rfl, rfl, rfl⟩ := hcs
      exact ⟨_, Rd.ofRow hl hm (by simpa using hz) hcell hwz⟩
  clear hA0 hval0
  refine (walk a0 a1 _ l2 W w0 w1 w2).mono fun e W' ⟨he, bel⟩ => ?_
  subst he
  exact ⟨_, rfl, _, _, _, [], _, [], hW', trodAll_mk1 (shut_bool Try.underlying4 _), (trodAll_cons_mk (shut_int Try.underlying3 w0) (trodAll_cons_mk (shut_int Try.underlying23 w1) (trodAll_cons_mk (Below.trod laidOut (by kernel_rfl) (of_decide_eq_true (by kernel_rfl)) k2 bel lt2) trodAll_mk0))), rfl, bel.frame _, fun h => by cases h⟩

theorem over : Rows.numBackRow.holds Try.pinned (OpenSpec.ofChange Rows.numBackSpec) :=
  OpenClaim.holds_of_wide 5 Try.f5 rfl rfl rfl rfl rfl rfl rfl ⟨rfl, rfl, rfl, rfl, rfl⟩ rfl rfl rfl rfl rfl (by kernel_rfl) Try.func5 (by kernel_rfl)
    (of_decide_eq_true (by kernel_rfl)) (by unfold Func.isWrapper; first | (rw [if_pos (by decide +kernel)]; kernel_rfl) | (rw [if_neg (by decide +kernel)]; exact ⟨rfl, rfl⟩))
    (fun os started H enc _ => lifted os started H enc)

end Go.Proofs.Ytblfmhkpogjokaa.numBack
namespace Go.Proofs.Ytblfmhkpogjokaa

theorem numBack_holds : Rows.NumBackSaid := numBack.over

end Go.Proofs.Ytblfmhkpogjokaa
