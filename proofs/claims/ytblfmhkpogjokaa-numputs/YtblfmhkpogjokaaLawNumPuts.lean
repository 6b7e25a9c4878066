/- Proved: for all bytes and every two numbers the law NumPuts answers true (and the call leaves all older memory as it was). No condition. -/
import Derived.Test.YtblfmhkpogjokaaNumAwake
import Derived.Test.YtblfmhkpogjokaaRef01Put
import Derived.OpenShut
import Derived.ChangeOld
import Derived.Deep.RegionWith
import Derived.Deep.RegionLaw
import Derived.Deep.DeepCutAuto
namespace Go.Proofs.Ytblfmhkpogjokaa.numPuts
open Go.ChangeShapes Go.WideShapes Go.ChangeAt Go.RowKit

/-- A call that makes bytes, in whatever later world: what it answers reads as l. -/
def Makes (f : Nat) (args : Array Value) (w : World) (l : List UInt8) : Prop :=
  ∀ w1, Below w.heap.size w w1 → Calls Try.prog f args w1 fun e w' => ∃ v', e = .returned v' ∧ Rd w' v' l ∧ Below w1.heap.size w1 w'

theorem leBytes4_mod (N : Nat) : Lib.leBytes 4 (N % 4294967296) = Lib.leBytes 4 N := by
  simp only [Lib.leBytes]
  have e1 : N % 4294967296 % 256 = N % 256 := by omega
  have e2 : N % 4294967296 / 256 % 256 = N / 256 % 256 := by omega
  have e3 : N % 4294967296 / 256 / 256 % 256 = N / 256 / 256 % 256 := by omega
  have e4 : N % 4294967296 / 256 / 256 / 256 % 256 = N / 256 / 256 / 256 % 256 := by omega
  rw [e1, e2, e3, e4]

set_option maxRecDepth 100000 in
set_option maxHeartbeats 2000000 in
theorem walk (vb : Value) (l : List UInt8) (n u : Int) (w : World) (hr : Rd w vb l) (w0 : (Lit.int .i64 n).wf = true) (w1 : (Lit.int .u64 u).wf = true) :
    Calls Try.prog 3 #[vb, .int .i64 n, .int .u64 u] w fun e w' => e = .returned (.bool true) ∧ Below w.heap.size w w' := by
  obtain ⟨hn0, hn1⟩ := i64_bd w0
  obtain ⟨hu0, hu1⟩ := u64_bd w1
  clear w0 w1
  have HA := hide (awake_any w)
  have HR := hide hr
  obtain ⟨ao, cap, rfl, hlc, hcm, _, _⟩ := hr
  by_cases hl : (1000 : Int) < (l.length : Int)
  · go_enter Try.func3, Try.ntmps3
    go_wp2_with fail
    refine HA.out.mono ?_
    rintro e w1 ⟨rfl, hb⟩
    have HB := hide hb
    clear hb HA HR
    go_wp2
    go_ret
    exact ⟨rfl, HB.out⟩
  · have RP : Hid (Makes 11 #[.slice ao l.length cap, .int .i64 n] w (putOf l n)) := by
      intro w1 hb
      refine (refPut_any _ l n w1 (HR.out.below hb (Nat.le_refl _)) (by omega)).mono ?_
      rintro e w' ⟨v', rfl, ho, hb'⟩
      exact ⟨v', rfl, ho.rd, hb'⟩
    go_enter Try.func3, Try.ntmps3
    go_wp2_with fail
    refine HA.out.mono ?_
    rintro e w1 ⟨rfl, hb⟩
    have HB1 := hide hb
    clear hb HA
    have hs1 := HB1.out.size
    go_wp2_with (at_builtin; refine wpList_append_rd _ rfl _ _ rfl w1.heap.size _ [] rfl (Own.nil _ _) _ l rfl (HR.out.below HB1.out (Nat.le_refl _)) (by simp; omega) (Nat.le_refl _) ?_)
    intro v2 w2 ho2 hb2
    have HR2 := hide ho2.rd
    have HB2 := hide (HB1.out.trans (hb2.mono hs1))
    have NP : Hid (Makes 10 #[v2, .int .i64 n] w2 (putOf l n)) := by
      intro w3 hb
      refine (put_any _ l n w3 (HR2.out.below hb (Nat.le_refl _)) (by omega)).mono ?_
      rintro e w' ⟨v', rfl, ho, hb'⟩
      exact ⟨v', rfl, ho.rd, hb'⟩
    clear ho2 hb2 HR2
    generalize putOf l n = L at *
    go_upto_region 5 with fail
    go_cut [9] (fun x wc => x = .bool true ∧ Hid (Below w.heap.size w wc))
    case first =>
      go_region_with (first
        | (go_at_call 10; refine (NP.out _ (Below.refl _ _).drew).mono ?_; rintro e w3 ⟨v3, rfl, hr3, hb3⟩; have hcv3 := hr3.str; have HB3 := hide (HB2.out.drew.trans (hb3.mono HB2.out.size)); have HR3 := hide hr3; clear hr3 hb3)
        | (go_at_call 11; refine (RP.out _ HB3.out).mono ?_; rintro e w4 ⟨v4, rfl, hr4, hb4⟩; have hcv4 := hr4.str; have hcv34 := (HR3.out.below hb4 (Nat.le_refl _)).str; have HB4 := hide (HB3.out.trans (hb4.mono HB3.out.size)); clear hr4 hb4))
      all_goals (go_wp2_with fail; go_meet; exact ⟨rfl, HB4⟩)
    case rest =>
    obtain ⟨rfl, HB5⟩ := hcut
    clear NP RP HB2
    have RS : Hid (Makes 13 #[.slice ao l.length cap, .int .i64 n] w (l ++ Lib.uvarint (Lib.zigzag n))) := by
      intro w1 hb
      refine (refPutSigned_any _ l n w1 (HR.out.below hb (Nat.le_refl _)) (by omega) hn0 hn1).mono ?_
      rintro e w' ⟨v', rfl, ho, hb'⟩
      exact ⟨v', rfl, ho.rd, hb'⟩
    have NS : Hid (∀ (v : Value) (w : World), Rd w v l → Calls Try.prog 12 #[v, .int .i64 n] w fun e w' => ∃ v', e = .returned v' ∧ Rd w' v' (l ++ Lib.uvarint (Lib.zigzag n)) ∧ Below w.heap.size w w') := by
      intro v w h
      refine (putSigned_any v l n w h (by omega) hn0 hn1).mono ?_
      rintro e w' ⟨v', rfl, ho, hb'⟩
      exact ⟨v', rfl, ho.rd, hb'⟩
    generalize l ++ Lib.uvarint (Lib.zigzag n) = M at *
    go_upto_region 6 with fail
    go_cut [10] (fun x wc => x = .bool true ∧ Hid (Below w.heap.size w wc))
    case first =>
      go_region_law (first
        | (refine step_append_rd (by rfl) _ _ (by rfl) wc.heap.size _ [] (by rfl) (Own.nil _ _) _ l (by rfl) (HR.out.below HB5.out.drew (Nat.le_refl _)) (by simp; omega) (Nat.le_refl _) ?_; intro v6 w6 ho6 hb6; have HR6 := hide ho6.rd; have HB6 := hide (HB5.out.drew.trans (hb6.mono HB5.out.size)); clear ho6 hb6)
        | (go_simp; go_wp2_with (first
          | (go_at_call 12; refine (NS.out _ _ HR6.out).mono ?_; rintro e w7 ⟨v7, rfl, hr7, hb7⟩; have hcv7 := hr7.str; have HB7 := hide (HB6.out.trans (hb7.mono HB6.out.size)); have HR7 := hide hr7; clear hr7 hb7)
          | (go_at_call 13; refine (RS.out _ HB7.out).mono ?_; rintro e w8 ⟨v8, rfl, hr8, hb8⟩; have hcv8 := hr8.str; have hcv78 := (HR7.out.below hb8 (Nat.le_refl _)).str; have HB8 := hide (HB7.out.trans (hb8.mono HB7.out.size)); clear hr8 hb8))))
      all_goals (go_wp2_with fail; go_meet; exact ⟨rfl, HB8⟩)
    case rest =>
    obtain ⟨rfl, HB9⟩ := hcut
    clear NS RS HB5 HR
    obtain ⟨N, hN⟩ : ∃ N : Nat, u = (N : Int) := Int.eq_ofNat_of_zero_le hu0
    have e4 : Lib.leBytes 4 (N % 4294967296) = Lib.leBytes 4 N := leBytes4_mod N
    have F4 : Hid (∀ w, Calls Try.prog 14 #[.int .u32 (u % 4294967296)] w fun e w' => ∃ v', e = .returned v' ∧ Rd w' v' (Lib.leBytes 4 N) ∧ Below w.heap.size w w') := by
      intro w
      have e : u % 4294967296 = ((N % 4294967296 : Nat) : Int) := by omega
      rw [e, ← e4]
      refine (fixed32_any _ w (by omega)).mono ?_
      rintro e w' ⟨v', rfl, ho, hb'⟩
      exact ⟨v', rfl, ho.rd, hb'⟩
    have F8 : Hid (∀ w, Calls Try.prog 16 #[.int .u64 u] w fun e w' => ∃ v', e = .returned v' ∧ Rd w' v' (Lib.leBytes 8 N) ∧ Below w.heap.size w w') := by
      intro w
      rw [hN]
      refine (fixed64_any _ w).mono ?_
      rintro e w' ⟨v', rfl, ho, hb'⟩
      exact ⟨v', rfl, ho.rd, hb'⟩
    have X4 : Hid (∀ w, Calls Try.prog 15 #[.int .u64 u, .int .i64 4] w fun e w' => ∃ v', e = .returned v' ∧ Rd w' v' (Lib.leBytes 4 N) ∧ Below w.heap.size w w') := by
      intro w
      rw [hN]
      refine (fix_any N 4 w (by omega) (by omega)).mono ?_
      rintro e w' ⟨v', rfl, ho, hb'⟩
      exact ⟨v', rfl, ho.rd, hb'⟩
    have X8 : Hid (∀ w, Calls Try.prog 15 #[.int .u64 u, .int .i64 8] w fun e w' => ∃ v', e = .returned v' ∧ Rd w' v' (Lib.leBytes 8 N) ∧ Below w.heap.size w w') := by
      intro w
      rw [hN]
      refine (fix_any N 8 w (by omega) (by omega)).mono ?_
      rintro e w' ⟨v', rfl, ho, hb'⟩
      exact ⟨v', rfl, ho.rd, hb'⟩
    have Z1 := hide (fun w => zig_any n w hn0 hn1)
    have Z2 := hide (fun w => refZig_any n w hn0 hn1)
    have Z3 : Hid (∀ w, Calls Try.prog 19 #[.int .u64 u] w fun e w' => e = .returned (.int .i64 (zag N)) ∧ w' = w) := by
      intro w; rw [hN]; exact zag_any N w (by omega)
    have Z4 : Hid (∀ w, Calls Try.prog 20 #[.int .u64 u] w fun e w' => e = .returned (.int .i64 (zag N)) ∧ w' = w) := by
      intro w; rw [hN]; exact refZag_any N w (by omega)
    clear hN e4
    generalize Lib.leBytes 4 N = l4 at *
    generalize Lib.leBytes 8 N = l8 at *
    generalize zag N = zN at *
    obtain ⟨zn, hzn⟩ : ∃ z : Int, z = ((Lib.zigzag n : Nat) : Int) := ⟨_, rfl⟩
    rw [← hzn] at Z1 Z2
    clear hzn
    go_upto_region 7 with fail
    go_cut [11] (fun x wc => x = .bool true ∧ Hid (Below w.heap.size w wc))
    case first =>
      have HB9d : Hid (Below w.heap.size w wc.drew) := HB9.out.drew
      go_region_with (first
        | (go_at_call 14; refine (F4.out _).mono ?_; rintro e w10 ⟨v10, rfl, hr10, hb10⟩; have hcv10 := hr10.str; have HB10 := hide (HB9d.out.trans (hb10.mono HB9d.out.size)); have HR10 := hide hr10; clear hr10 hb10)
        | (go_at_call_of 15 (Value.int .i64 4); refine (X4.out _).mono ?_; rintro e w11 ⟨v11, rfl, hr11, hb11⟩; have hcv11 := hr11.str; have hcv10b := (HR10.out.below hb11 (Nat.le_refl _)).str; have HB11 := hide (HB10.out.trans (hb11.mono HB10.out.size)); clear hr11 hb11)
        | (go_at_call 16; refine (F8.out _).mono ?_; rintro e w12 ⟨v12, rfl, hr12, hb12⟩; have hcv12 := hr12.str; have HB12 := hide (HB11.out.trans (hb12.mono HB11.out.size)); have HR12 := hide hr12; clear hr12 hb12)
        | (go_at_call_of 15 (Value.int .i64 8); refine (X8.out _).mono ?_; rintro e w13 ⟨v13, rfl, hr13, hb13⟩; have hcv13 := hr13.str; have hcv12b := (HR12.out.below hb13 (Nat.le_refl _)).str; have HB13 := hide (HB12.out.trans (hb13.mono HB12.out.size)); clear hr13 hb13))
      all_goals (go_wp2_with fail; go_meet; exact ⟨rfl, HB13⟩)
    case rest =>
    obtain ⟨rfl, HB14⟩ := hcut
    clear F4 F8 X4 X8 HB9
    go_wp2_with fail
    refine (Z1.out _).mono ?_
    rintro e w15 ⟨rfl, rfl⟩
    go_wp2_with fail
    refine (Z2.out _).mono ?_
    rintro e w16 ⟨rfl, rfl⟩
    go_wp2_with fail
    refine (Z3.out _).mono ?_
    rintro e w17 ⟨rfl, rfl⟩
    go_wp2_with fail
    refine (Z4.out _).mono ?_
    rintro e w18 ⟨rfl, rfl⟩
    go_wp2
    go_ret
    exact ⟨rfl, HB14.out⟩

theorem own : ownKnob Try.prog.godebug = none := by kernel_rfl
theorem laidOut : laidOutB Try.prog = true := by kernel_rfl

set_option linter.unusedVariables false in
set_option maxRecDepth 100000 in
theorem lifted (os : Os) (started : os.Started) (H : Type) (enc : TypeId × Value → H) :
    ReturnsInHanded {} Try.checked os 3 .any (Rows.numPutsSpec.pre6 enc Try.prog Try.f3 Rows.numPutsRow.domain false) (Rows.numPutsSpec.post enc Try.prog Try.f3 false true false false) := by
  refine returnsInHanded_of_change (C := Try.checked) own started (by kernel_rfl) Try.func3
    (ChangeSpec.witness6 (enc := enc) (C := Try.checked) false ⟨#[], #[.slice none 0 0, .int .i64 0, .int .u64 0], []⟩ 8 (by kernel_rfl) (by kernel_rfl) (by kernel_rfl) (by kernel_rfl)) ?_
  intro W base args ds gs before hval0 hW hcnd _
  have hval : ∀ (j : Nat) t v, Try.f3.params[j]? = some t → args[j]? = some v → Value.okWide Try.prog W .any base t v := hval0
  have hW' := hW
  obtain ⟨p, q, hA0, hV, rfl, hfz, hnd⟩ := hW
  have hA : DataW.TrodAll enc Try.prog W 0 (fun _ => true) true Try.f3.params.toList args.toList ds p := hA0
  rw [Try.params3] at hA hval
  obtain ⟨v0, vs0, d0, ds0, p0, q0, hargs, rfl, rfl, h0, r0⟩ := trodAll_cons hA
  obtain ⟨v1, vs1, d1, ds1, p1, q1, rfl, rfl, rfl, h1, r1⟩ := trodAll_cons r0
  obtain ⟨v2, vs2, d2, ds2, p2, q2, rfl, rfl, rfl, h2, r2⟩ := trodAll_cons r1
  obtain ⟨rfl, rfl, rfl⟩ := trodAll_nil r2
  obtain rfl : args = #[v0, v1, v2] := by cases args; simp_all
  obtain ⟨rfl, rfl⟩ := trodVars_none hV
  obtain ⟨a0, len0, cap0, rfl⟩ := okWide_slice Try.underlying22 (hval 0 22 v0 rfl rfl)
  have k0 := h0
  have lt0 : ∀ x ∈ p0, x.block < W.heap.size := by obtain ⟨m, hm⟩ := k0; exact DataW.trod_lt m _ _ _ hm
  obtain ⟨l0, w0⟩ : ∃ l, Rd W (.slice a0 len0 cap0) l := by
    obtain ⟨fuel, hf⟩ := h0
    rcases open_ints Try.underlying22 Try.underlying5 (by kernel_rfl) hf with ⟨hcs, _⟩ | ⟨x, l, c, zs, hcs, _, hl, hm, hz, _, hcell, hwz⟩
    · simp [Value.cells] at hcs
      obtain ⟨rfl, rfl, rfl⟩ := hcs
      exact ⟨[], Rd.nil _⟩
    · simp [Value.cells] at hcs
      obtain ⟨rfl, rfl, rfl⟩ := hcs
      exact ⟨_, Rd.ofRow hl hm (by simpa using hz) hcell hwz⟩
  obtain ⟨a1, rfl, rfl, rfl, w1⟩ := open_int Try.underlying3 (hval 1 3 v1 rfl rfl) h1
  obtain ⟨a2, rfl, rfl, rfl, w2⟩ := open_int Try.underlying23 (hval 2 23 v2 rfl rfl) h2
  clear hA0 hval0
  refine (walk _ l0 a1 a2 W w0 w1 w2).mono fun e W' ⟨he, bel⟩ => ?_
  subst he
  exact ⟨_, rfl, _, _, _, [], _, [], hW', trodAll_mk1 (shut_bool Try.underlying4 _), (trodAll_cons_mk (Below.trod laidOut (by kernel_rfl) (of_decide_eq_true (by kernel_rfl)) k0 bel lt0) (trodAll_cons_mk (shut_int Try.underlying3 w1) (trodAll_cons_mk (shut_int Try.underlying23 w2) trodAll_mk0))), rfl, bel.frame _, fun h => by cases h⟩

theorem over : Rows.numPutsRow.holds Try.pinned (OpenSpec.ofChange Rows.numPutsSpec) :=
  OpenClaim.holds_of_wide 3 Try.f3 rfl rfl rfl rfl rfl rfl rfl ⟨rfl, rfl, rfl, rfl, rfl⟩ rfl rfl rfl rfl rfl (by kernel_rfl) Try.func3 (by kernel_rfl)
    (of_decide_eq_true (by kernel_rfl)) (by unfold Func.isWrapper; first | (rw [if_pos (by decide +kernel)]; kernel_rfl) | (rw [if_neg (by decide +kernel)]; exact ⟨rfl, rfl⟩))
    (fun os started H enc _ => lifted os started H enc)

end Go.Proofs.Ytblfmhkpogjokaa.numPuts
namespace Go.Proofs.Ytblfmhkpogjokaa

theorem numPuts_holds : Rows.NumPutsSaid := numPuts.over

end Go.Proofs.Ytblfmhkpogjokaa
