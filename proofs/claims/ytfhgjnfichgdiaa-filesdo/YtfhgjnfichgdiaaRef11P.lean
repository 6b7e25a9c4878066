/- Contracts of ferrymanref11: Append, whatever comes; two disks, the landed one and the document's. -/
import Derived.Test.YtfhgjnfichgdiaaRef11N
import Derived.Test.YtfhgjnfichgdiaaRef11K
import Derived.Test.YtfhgjnfichgdiaaFilesAwake
namespace Go.Proofs.Ytfhgjnfichgdiaa
open Go.RowKit

set_option maxRecDepth 100000 in
theorem refAppend_any {F : Nat → Prop} {p : Nat} {d : Dk} {N T : Nat} (n : Int) (vb : Value) (b : List UInt8) (w : World) (h : Rsk F w p d N T) (hr : Rd w vb b) (hN : N ≤ 900000) (hT : T ≤ 1000000000) (hbl : b.length ≤ 1000000000) (hvb : b = [] ∨ ∀ k, vb.ownBlock = some k → ¬ F k) :
    Calls Try.prog 19 #[ptr p, .int .i64 n, vb] w fun e w' => RDid F w p (appendD d n b).1 (appendD d n b).2 (N + 2) (T + b.length) e w' := by
  by_cases h0 : d.power = 0
  · have e : appendD d n b = (d, 11) := by unfold appendD; rw [if_pos h0]
    rw [e]
    have HD := hide h
    obtain ⟨L, h, hp, -⟩ := h
    obtain ⟨ao, cap, rfl, -⟩ := hr
    obtain ⟨⟨-, -, -, -, c4, -⟩, -⟩ := h.cells
    rw [hp.1, decide_eq_true h0] at c4
    clear h hp h0 e
    go_enter Try.func19, Try.ntmps19
    go_wp2
    go_ret
    exact RDid.same HD.out (Below.refl _ _) (by omega) (by omega)
  by_cases hm : mayN n = false
  · have e : appendD d n b = (d, 1) := by unfold appendD; rw [if_neg h0, if_pos hm]
    rw [e]
    have HD := hide h
    have HM := hide (refMay_any n w)
    rw [hm] at HM
    obtain ⟨L, h, hp, -⟩ := h
    obtain ⟨ao, cap, rfl, -⟩ := hr
    obtain ⟨⟨-, -, -, -, c4, -⟩, -⟩ := h.cells
    rw [hp.1, decide_eq_false h0] at c4
    clear h hp h0 e hm
    go_enter Try.func19, Try.ntmps19
    go_wp2_with fail
    refine HM.out.mono ?_
    rintro e w' ⟨rfl, rfl⟩
    go_wp2
    go_ret
    exact RDid.same HD.out (Below.refl _ _) (by omega) (by omega)
  have hmt : mayN n = true := by simpa using hm
  by_cases hroom : (usedD d : Int) + b.length > d.room
  · have e : appendD d n b = (d, 10) := by unfold appendD; rw [if_neg h0, if_neg hm, if_pos hroom]
    rw [e]
    exact refFull_any n vb b w h hr hN hT hbl h0 hmt hroom
  cases ho : look (dirD d) n with
  | some f =>
    have e : appendD d n b = (appendTo d f b, 0) := by unfold appendD; rw [if_neg h0, if_neg hm, if_neg hroom, ho]
    rw [e]
    exact refGrow_any n vb b w h hr hN hT hbl h0 hmt hroom ho
  | none =>
    have e : appendD d n b = (appendTo (freshD d n) d.files.length b, 0) := by unfold appendD; rw [if_neg h0, if_neg hm, if_neg hroom, ho]
    rw [e]
    exact refFresh_any n vb b w h hr hN hT hbl hvb h0 hmt hroom ho

/-- Two disks, apart from each other and from what is kept. -/
def Two (K : Nat → Prop) (w : World) (p q : Nat) (d r : Dk) (N T : Nat) : Prop :=
  ∃ F G, Dsk F w p d N T ∧ Rsk G w q r N T ∧ (∀ k, F k → ¬ K k) ∧ (∀ k, G k → ¬ K k) ∧ (∀ k, F k → ¬ G k)

theorem Rsk.ltG {G : Nat → Prop} {w : World} {p : Nat} {d : Dk} {N T : Nat} (h : Rsk G w p d N T) : ∀ k, G k → k < w.heap.size := by
  obtain ⟨L, h, -⟩ := h
  exact h.lt

theorem Only.weaken {F G : Nat → Prop} {w w' : World} (h : Only F w w') (hF : ∀ k, F k → G k) : Only G w w' :=
  ⟨h.os, h.tape, h.output, h.size, fun k hk hg => h.block k hk fun hf => hg (hF k hf)⟩

theorem Two.below {K : Nat → Prop} {w w' : World} {p q : Nat} {d r : Dk} {N T : Nat} (h : Two K w p q d r N T) (hb : Below w.heap.size w w') : Two K w' p q d r N T := by
  obtain ⟨F, G, h1, h2, h3⟩ := h
  exact ⟨F, G, h1.below hb, h2.below hb, h3⟩

theorem Two.mono {K : Nat → Prop} {w : World} {p q : Nat} {d r : Dk} {N T N' T' : Nat} (h : Two K w p q d r N T) (hN : N ≤ N') (hT : T ≤ T') : Two K w p q d r N' T' := by
  obtain ⟨F, G, h1, h2, h3⟩ := h
  exact ⟨F, G, h1.mono hN hT, h2.mono hN hT, h3⟩

/-- One block more is kept. -/
theorem Two.also {K : Nat → Prop} {w w' : World} {p q : Nat} {d r : Dk} {N T : Nat} (h : Two K w p q d r N T) (hb : Below w.heap.size w w') : Two (fun k => K k ∨ w.heap.size ≤ k) w' p q d r N T := by
  obtain ⟨F, G, h1, h2, h3, h4, h5⟩ := h
  refine ⟨F, G, h1.below hb, h2.below hb, fun k hk hh => ?_, fun k hk hh => ?_, h5⟩
  · rcases hh with hh | hh
    · exact h3 k hk hh
    · have := h1.ltF k hk
      omega
  · rcases hh with hh | hh
    · exact h4 k hk hh
    · have := h2.ltG k hk
      omega

theorem Two.less {K K' : Nat → Prop} {w : World} {p q : Nat} {d r : Dk} {N T : Nat} (h : Two K w p q d r N T) (hK : ∀ k, K' k → K k) : Two K' w p q d r N T := by
  obtain ⟨F, G, h1, h2, h3, h4, h5⟩ := h
  exact ⟨F, G, h1, h2, fun k hk hh => h3 k hk (hK k hh), fun k hk hh => h4 k hk (hK k hh), h5⟩

/-- A call of the landed disk. -/
theorem two_left {K : Nat → Prop} {w : World} {p q : Nat} {r d' : Dk} {N T N' T' : Nat} {e : Ending} {v : Value} {w' : World} {F G F' : Nat → Prop} (hK : ∀ k, K k → k < w.heap.size) (hN : N ≤ N') (hT : T ≤ T') (h2 : Rsk G w q r N T) (h3 : ∀ k, F k → ¬ K k) (h4 : ∀ k, G k → ¬ K k) (h5 : ∀ k, F k → ¬ G k)
    (he : e = .returned v) (hd : Dsk F' w' p d' N' T') (ho : Only F w w') (hF : ∀ k, F' k → F k ∨ w.heap.size ≤ k) : e = .returned v ∧ Two K w' p q d' r N' T' ∧ Only (fun k => ¬ K k) w w' := by
  refine ⟨he, ⟨F', G, hd, (h2.only ho fun k hg hf => h5 k hf hg).mono hN hT, fun k hk hh => ?_, h4, fun k hk hh => ?_⟩, ho.weaken h3⟩
  · rcases hF k hk with h | h
    · exact h3 k h hh
    · have := hK k hh
      omega
  · rcases hF k hk with h | h
    · exact h5 k h hh
    · have := h2.ltG k hh
      omega

/-- A call of the document's disk. -/
theorem two_right {K : Nat → Prop} {w : World} {p q : Nat} {d r' : Dk} {N T N' T' : Nat} {e : Ending} {v : Value} {w' : World} {F G G' : Nat → Prop} (hK : ∀ k, K k → k < w.heap.size) (hN : N ≤ N') (hT : T ≤ T') (h1 : Dsk F w p d N T) (h3 : ∀ k, F k → ¬ K k) (h4 : ∀ k, G k → ¬ K k) (h5 : ∀ k, F k → ¬ G k)
    (he : e = .returned v) (hd : Rsk G' w' q r' N' T') (ho : Only G w w') (hG : ∀ k, G' k → G k ∨ w.heap.size ≤ k) : e = .returned v ∧ Two K w' p q d r' N' T' ∧ Only (fun k => ¬ K k) w w' := by
  refine ⟨he, ⟨F, G', (h1.only ho h5).mono hN hT, hd, h3, fun k hk hh => ?_, fun k hk hh => ?_⟩, ho.weaken h4⟩
  · rcases hG k hk with h | h
    · exact h4 k h hh
    · have := hK k hh
      omega
  · rcases hG k hh with h | h
    · exact h5 k hk h
    · have := h1.ltF k hk
      omega

theorem twoL {K : Nat → Prop} {w : World} {p q : Nat} {d r d' : Dk} {N T N' T' : Nat} {f : Nat} {args : Array Value} {c : Int} (h : Two K w p q d r N T) (hK : ∀ k, K k → k < w.heap.size) (hN : N ≤ N') (hT : T ≤ T')
    (hc : ∀ F, Dsk F w p d N T → (∀ k, F k → ¬ K k) → Calls Try.prog f args w fun e w' => DidF F w p d' c N' T' e w') : Calls Try.prog f args w fun e w' => e = .returned (.int .i64 c) ∧ Two K w' p q d' r N' T' ∧ Only (fun k => ¬ K k) w w' := by
  obtain ⟨F, G, h1, h2, h3, h4, h5⟩ := h
  refine (hc F h1 h3).mono ?_
  rintro e w' ⟨he, F', hd, ho, hF⟩
  exact two_left hK hN hT h2 h3 h4 h5 he hd ho hF

theorem twoR {K : Nat → Prop} {w : World} {p q : Nat} {d r r' : Dk} {N T N' T' : Nat} {f : Nat} {args : Array Value} {c : Int} (h : Two K w p q d r N T) (hK : ∀ k, K k → k < w.heap.size) (hN : N ≤ N') (hT : T ≤ T')
    (hc : ∀ G, Rsk G w q r N T → (∀ k, G k → ¬ K k) → Calls Try.prog f args w fun e w' => RDid G w q r' c N' T' e w') : Calls Try.prog f args w fun e w' => e = .returned (.int .i64 c) ∧ Two K w' p q d r' N' T' ∧ Only (fun k => ¬ K k) w w' := by
  obtain ⟨F, G, h1, h2, h3, h4, h5⟩ := h
  refine (hc G h2 h4).mono ?_
  rintro e w' ⟨he, G', hd, ho, hG⟩
  exact two_right hK hN hT h1 h3 h4 h5 he hd ho hG

end Go.Proofs.Ytfhgjnfichgdiaa
