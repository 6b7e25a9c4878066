/- Proved: for all bytes the law NumOnce answers true (and the call leaves all older memory as it was). No condition. -/
import Derived.Test.YtblfmhkpogjokaaNumOnceA
import Derived.Test.YtblfmhkpogjokaaNumOnceB
import Derived.Test.YtblfmhkpogjokaaNumOnceC
import Derived.Test.YtblfmhkpogjokaaNumOnceD
import Derived.OpenShut
import Derived.ChangeOld
namespace Go.Proofs.Ytblfmhkpogjokaa.numOnce
open Go.ChangeShapes Go.WideShapes Go.ChangeAt Go.RowKit

theorem Rd.take {w : World} {b off cap : Nat} {l : List UInt8} (k : Nat) (hk : k ≤ l.length) (hlc : l.length ≤ cap) (hcm : cap ≤ maxLen) (hc : ∀ j, j < l.length → w.cell? ⟨b, off + j, none⟩ = some (.int .u8 (l.getD j 0).toNat)) :
    Rd w (.slice (some ⟨b, off, none⟩) k cap) (l.take k) := by
  have hlen : (l.take k).length = k := by simp; omega
  refine ⟨some ⟨b, off, none⟩, cap, by rw [hlen], by omega, hcm, (fun e => by cases e), .inr ⟨b, off, rfl, fun j hj => ?_⟩⟩
  rw [hc j (by omega)]
  have hj2 : j < k := by omega
  simp [List.getD, hj2]

set_option maxRecDepth 100000 in
set_option maxHeartbeats 2000000 in
theorem walk (vb : Value) (l : List UInt8) (w : World) (hr : Rd w vb l) :
    Calls Try.prog 6 #[vb] w fun e w' => e = .returned (.bool true) ∧ Below w.heap.size w w' := by
  have HA := hide (awake_any w)
  have HR := hide hr
  obtain ⟨ao, cap, rfl, hlc, hcm, _, hao⟩ := hr
  by_cases hl : (1000 : Int) < (l.length : Int)
  · clear hao
    go_enter Try.func6, Try.ntmps6
    go_wp2_with fail
    refine HA.out.mono ?_
    rintro e w1 ⟨rfl, hb⟩
    have HB := hide hb
    clear hb HA HR
    go_wp2
    go_ret
    exact ⟨rfl, HB.out⟩
  · have HG : Hid (∀ w1, Below w.heap.size w w1 → Calls Try.prog 21 #[.slice ao l.length cap] w1 fun e w' => e = .returned (.tuple #[.int .i64 ((dec62 l).1 : Nat), .int .i64 ((dec62 l).2 : Nat)]) ∧ w' = w1) := fun w1 hb => get_any _ l w1 (HR.out.below hb (Nat.le_refl _))
    have HS : Hid (∀ w1, Below w.heap.size w w1 → Calls Try.prog 23 #[.slice ao l.length cap] w1 fun e w' => e = .returned (.tuple #[.int .i64 (zag (dec64 l).1), .int .i64 ((dec64 l).2 : Nat)]) ∧ w' = w1) := fun w1 hb => getSigned_any _ l w1 (HR.out.below hb (Nat.le_refl _))
    have P1 : Hid (∀ w1, Calls Try.prog 10 #[.slice none 0 0, .int .i64 ((dec62 l).1 : Nat)] w1 fun e w' => ∃ v', e = .returned v' ∧ Rd w' v' (putOf [] ((dec62 l).1 : Nat)) ∧ Below w1.heap.size w1 w') := by
      intro w1
      refine (put_any _ [] _ w1 (Rd.nil _) (by decide)).mono ?_
      rintro e w' ⟨v', rfl, ho, hb'⟩
      exact ⟨v', rfl, ho.rd, hb'⟩
    have hz := zag_range (dec64 l).1 (dec64_lt l)
    have P2 : Hid (∀ w1, Calls Try.prog 12 #[.slice none 0 0, .int .i64 (zag (dec64 l).1)] w1 fun e w' => ∃ v', e = .returned v' ∧ Rd w' v' (Lib.uvarint (dec64 l).1) ∧ Below w1.heap.size w1 w') := by
      intro w1
      refine (putSigned_any _ [] _ w1 (Rd.nil _) (by decide) hz.1 hz.2).mono ?_
      rintro e w' ⟨v', rfl, ho, hb'⟩
      rw [zigzag_zag] at ho
      exact ⟨v', rfl, ho.rd, hb'⟩
    clear hz
    have hg := dec62_cases l
    have hs := dec64_cases l
    generalize dec62 l = d at *
    generalize dec64 l = s at *
    obtain ⟨A, I⟩ := d
    obtain ⟨U, K⟩ := s
    simp only at HG HS P1 P2 hg hs
    have hg' : (A = 0 ∧ I = 0) ∨ (1 ≤ I ∧ I ≤ l.length ∧ putOf [] ((A : Nat) : Int) = l.take I) := by
      rcases hg with h | ⟨h1, h2, h3, h4⟩
      · exact .inl ⟨congrArg Prod.fst h, congrArg Prod.snd h⟩
      · refine .inr ⟨h2, h3, ?_⟩
        rw [h4]
        exact if_pos ⟨by omega, by omega⟩
    have hs' : (zag U = 0 ∧ K = 0) ∨ (1 ≤ K ∧ K ≤ l.length ∧ Lib.uvarint U = l.take K) := by
      rcases hs with h | ⟨h1, h2, h3, h4⟩
      · have hU : U = 0 := congrArg Prod.fst h
        exact .inl ⟨by rw [hU]; rfl, congrArg Prod.snd h⟩
      · exact .inr ⟨h2, h3, h4.symm⟩
    clear hg hs
    generalize putOf [] ((A : Nat) : Int) = LA at *
    generalize Lib.uvarint U = LU at *
    generalize zag U = Z at *
    obtain ⟨AA, hAA⟩ : ∃ a : Int, a = ((A : Nat) : Int) := ⟨_, rfl⟩
    have hA0 : A = 0 → AA = 0 := by omega
    rw [← hAA] at HG P1
    clear hAA
    have hl' : (l.length : Int) ≤ 1000 := by omega
    rcases hao with hao | ⟨b, off, rfl, hc⟩
    · subst hao
      have e1 : AA = 0 ∧ I = 0 := by
        rcases hg' with h | h
        · exact ⟨hA0 h.1, h.2⟩
        · simp at h; omega
      have e2 : Z = 0 ∧ K = 0 := by
        rcases hs' with h | h
        · exact h
        · simp at h; omega
      exact none_none ao _ cap hl' AA Z e1.1 e2.1 I K e1.2 e2.2 w HA HG HS
    · have HT : ∀ k, k ≤ l.length → Hid (∀ w1, Below w.heap.size w w1 → (convert 22 9 (.slice (some ⟨b, off, none⟩) k cap)).run Try.prog w1 = .ok (.string (bs (l.take k))) w1) := by
        intro k hk w1 hb
        have h := HR.out.below hb (Nat.le_refl _)
        obtain ⟨ao', cap', hv', _, _, _, hao'⟩ := h
        simp only [Value.slice.injEq] at hv'
        obtain ⟨rfl, _, rfl⟩ := hv'
        rcases hao' with h0 | ⟨b', off', h1, h2⟩
        · subst h0
          obtain rfl : k = 0 := by simpa using hk
          exact (Rd.take 0 (by omega) hlc hcm (fun j hj => by simp at hj)).str
        · simp only [Option.some.injEq, Addr.mk.injEq, and_true] at h1
          obtain ⟨rfl, rfl⟩ := h1
          exact (Rd.take k hk hlc hcm h2).str
      rcases hg' with ⟨hA, hI⟩ | ⟨hI1, hIl, rfl⟩
      · rcases hs' with ⟨hZ, hK⟩ | ⟨hK1, hKl, rfl⟩
        · exact none_none _ _ cap hl' AA Z (hA0 hA) hZ I K hI hK w HA HG HS
        · exact none_some b off _ cap hl' hlc AA Z I K (hA0 hA) hI _ w HA HG HS P2 (HT K hKl) hK1 hKl
      · rcases hs' with ⟨hZ, hK⟩ | ⟨hK1, hKl, rfl⟩
        · exact some_none b off _ cap hl' hlc AA Z I K hZ hK _ w HA HG HS P1 (HT I hIl) hI1 hIl
        · exact some_some b off _ cap hl' hlc AA Z I K _ _ w HA HG HS P1 P2 (HT I hIl) hI1 hIl (HT K hKl) hK1 hKl

theorem own : ownKnob Try.prog.godebug = none := by kernel_rfl
theorem laidOut : laidOutB Try.prog = true := by kernel_rfl

set_option linter.unusedVariables false in
set_option maxRecDepth 100000 in
theorem lifted (os : Os) (started : os.Started) (H : Type) (enc : TypeId × Value → H) :
    ReturnsInHanded {} Try.checked os 6 .any (Rows.numOnceSpec.pre6 enc Try.prog Try.f6 Rows.numOnceRow.domain false) (Rows.numOnceSpec.post enc Try.prog Try.f6 false true false false) := by
  refine returnsInHanded_of_change (C := Try.checked) own started (by kernel_rfl) Try.func6
    (ChangeSpec.witness6 (enc := enc) (C := Try.checked) false ⟨#[], #[.slice none 0 0], []⟩ 8 (by kernel_rfl) (by kernel_rfl) (by kernel_rfl) (by kernel_rfl)) ?_
  intro W base args ds gs before hval0 hW hcnd _
  have hval : ∀ (j : Nat) t v, Try.f6.params[j]? = some t → args[j]? = some v → Value.okWide Try.prog W .any base t v := hval0
  have hW' := hW
  obtain ⟨p, q, hA0, hV, rfl, hfz, hnd⟩ := hW
  have hA : DataW.TrodAll enc Try.prog W 0 (fun _ => true) true Try.f6.params.toList args.toList ds p := hA0
  rw [Try.params6] at hA hval
  obtain ⟨v0, vs0, d0, ds0, p0, q0, hargs, rfl, rfl, h0, r0⟩ := trodAll_cons hA
  obtain ⟨rfl, rfl, rfl⟩ := trodAll_nil r0
  obtain rfl : args = #[v0] := by cases args; simp_all
  obtain ⟨rfl, rfl⟩ := trodVars_none hV
  obtain ⟨a0, len0, cap0, rfl⟩ := okWide_slice Try.underlying22 (hval 0 22 v0 rfl rfl)
  have k0 := h0
  have lt0 : ∀ x ∈ p0, x.block < W.heap.size := by obtain ⟨m, hm⟩ := k0; exact DataW.trod_lt m _ _ _ hm
  obtain ⟨l0, w0⟩ : ∃ l, Rd W (.slice a0 len0 cap0) l := by
    obtain ⟨fuel, hf⟩ := h0
    rcases open_ints Try.underlying22 Try.underlying5 (by kernel_rfl) hf with ⟨hcs, _⟩ | ⟨x, l, c, zs, hcs, _, hl, hm, hz, _, hcell, hwz⟩
    · simp [Value.cells] at hcs
      obtain ⟨rfl, rfl, rfl⟩ := hcs
      exact ⟨[], Rd.nil _⟩
    · simp [Value.cells] at hcs
      obtain ⟨rfl, rfl, rfl⟩ := hcs
      exact ⟨_, Rd.ofRow hl hm (by simpa using hz) hcell hwz⟩
  clear hA0 hval0
  refine (walk _ l0 W w0).mono fun e W' ⟨he, bel⟩ => ?_
  subst he
  exact ⟨_, rfl, _, _, _, [], _, [], hW', trodAll_mk1 (shut_bool Try.underlying4 _), (trodAll_cons_mk (Below.trod laidOut (by kernel_rfl) (of_decide_eq_true (by kernel_rfl)) k0 bel lt0) trodAll_mk0), rfl, bel.frame _, fun h => by cases h⟩

theorem over : Rows.numOnceRow.holds Try.pinned (OpenSpec.ofChange Rows.numOnceSpec) :=
  OpenClaim.holds_of_wide 6 Try.f6 rfl rfl rfl rfl rfl rfl rfl ⟨rfl, rfl, rfl, rfl, rfl⟩ rfl rfl rfl rfl rfl (by kernel_rfl) Try.func6 (by kernel_rfl)
    (of_decide_eq_true (by kernel_rfl)) (by unfold Func.isWrapper; first | (rw [if_pos (by decide +kernel)]; kernel_rfl) | (rw [if_neg (by decide +kernel)]; exact ⟨rfl, rfl⟩))
    (fun os started H enc _ => lifted os started H enc)

end Go.Proofs.Ytblfmhkpogjokaa.numOnce
namespace Go.Proofs.Ytblfmhkpogjokaa

theorem numOnce_holds : Rows.NumOnceSaid := numOnce.over

end Go.Proofs.Ytblfmhkpogjokaa
