/- The chapter's bound on how much a snapshot has: Few. -/
import Derived.Test.YtgpdbboieokldaaSnapBoxes
import Derived.Test.YtgpdbboieokldaaObjsFew
namespace Go.Proofs.Ytgpdbboieokldaa
open Go.RowKit

set_option maxRecDepth 100000 in
theorem fewN_any (v : Value) (s : Snap) (w : World) (hs : SnV w v s) :
    Calls Try.prog 9 #[v] w fun e w' => e = .returned (.bool (decide (s.st.L.length ≤ 300 ∧ s.tab.length ≤ 100))) ∧ Below w.heap.size w w' := by
  obtain ⟨vl, vt, rfl, hl, hk, he, ht, hi⟩ := hs
  obtain ⟨la, lc, e1⟩ : ∃ la lc, vl = .slice la s.st.L.length lc := by
    obtain ⟨a, c, h, -⟩ := hl
    exact ⟨a, c, h⟩
  have hml : (s.tab.length : Int) ≤ 9223372036854775807 := by
    obtain ⟨_, c, _, h1, h2, _⟩ := ht
    unfold maxLen at h2
    omega
  obtain ⟨ta, tc, e2⟩ := ht.shape
  subst e1 e2
  have HB0 : Hid (∀ X, Below w.heap.size w (w.alloc X)) := fun X => (Below.refl _ _).alloc (Nat.le_refl _) X
  have HX0 : Hid (∀ cs, Bn (w.alloc (.cells cs 27)) w.heap.size cs) := fun cs => heap_alloc_new w _
  have HFW : Hid (∀ W, Below w.heap.size w W → Calls Try.prog 23 #[.agg #[.int .i64 s.st.kind, .slice la s.st.L.length lc, .bool s.st.shut, .int .i64 s.st.eng]] W fun e w' => e = .returned (.bool (decide ((s.st.L.length : Int) ≤ 300))) ∧ Below W.heap.size W w') := hide (fun W h => few_any _ s.st W ⟨_, rfl, hl.below h (Nat.le_refl _), hk, he⟩)
  obtain ⟨idx, ⟨kind, L, shut, eng⟩, tab⟩ := s
  dsimp only at *
  obtain ⟨D, hD⟩ : ∃ D, D = decide (L.length ≤ 300 ∧ tab.length ≤ 100) := ⟨_, rfl⟩
  rw [← hD]
  have HD := hide hD
  clear hD hl ht hk he hi
  by_cases h1 : L.length ≤ 300
  · have e1 : decide ((L.length : Int) ≤ 300) = true := decide_eq_true (by omega)
    rw [e1] at HFW
    by_cases h2 : tab.length ≤ 100
    · have HE : Hid (D = true) := hide (by rw [HD.out]; exact decide_eq_true ⟨h1, h2⟩)
      have h2' : (tab.length : Int) ≤ 100 := by omega
      clear h1 h2 HD e1
      go_enter Try.func9, Try.ntmps9
      go_wp2_with fail
      refine (HFW.out _ (HB0.out _)).mono ?_
      rintro e W1 ⟨rfl, hb1⟩
      have hx1 : Bn W1 w.heap.size _ := (HX0.out _).below hb1 (Nat.le_refl _)
      have HB1 := hide ((HB0.out _).trans (hb1.mono (HB0.out _).size))
      obtain ⟨p5, -⟩ := hx1.cell 5
      clear hb1 hx1
      go_wp2
      go_ret
      rw [HE.out]
      exact ⟨rfl, HB1.out⟩
    · have HE : Hid (D = false) := hide (by rw [HD.out]; exact decide_eq_false (fun h => h2 h.2))
      have h2' : decide ((tab.length : Int) ≤ 100) = false := decide_eq_false (by omega)
      have h2n : decide (tab.length ≤ 100) = false := decide_eq_false h2
      clear h1 h2 HD e1
      go_enter Try.func9, Try.ntmps9
      go_wp2_with fail
      refine (HFW.out _ (HB0.out _)).mono ?_
      rintro e W1 ⟨rfl, hb1⟩
      have hx1 : Bn W1 w.heap.size _ := (HX0.out _).below hb1 (Nat.le_refl _)
      have HB1 := hide ((HB0.out _).trans (hb1.mono (HB0.out _).size))
      obtain ⟨p5, -⟩ := hx1.cell 5
      clear hb1 hx1
      go_wp2
      go_ret
      rw [HE.out]
      refine ⟨?_, HB1.out⟩
      first | rfl | simp_all
  · have e1 : decide ((L.length : Int) ≤ 300) = false := decide_eq_false (by omega)
    have HE : Hid (D = false) := hide (by rw [HD.out]; exact decide_eq_false (fun h => h1 h.1))
    rw [e1] at HFW
    clear h1 HD e1
    go_enter Try.func9, Try.ntmps9
    go_wp2_with fail
    refine (HFW.out _ (HB0.out _)).mono ?_
    rintro e W1 ⟨rfl, hb1⟩
    have HB1 := hide ((HB0.out _).trans (hb1.mono (HB0.out _).size))
    clear hb1
    go_wp2
    go_ret
    rw [HE.out]
    exact ⟨rfl, HB1.out⟩

end Go.Proofs.Ytgpdbboieokldaa
