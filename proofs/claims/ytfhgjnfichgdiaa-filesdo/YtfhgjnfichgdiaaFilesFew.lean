/- Few of layer files: how many calls, and how long. -/
import Derived.Test.YtfhgjnfichgdiaaFilesAwake
import Derived.Test.YtfhgjnfichgdiaaOpenFiles
namespace Go.Proofs.Ytfhgjnfichgdiaa
open Go.RowKit

def FewP (l : List FOp) : Prop := l.length ≤ 150 ∧ ∀ (j : Nat) x, l[j]? = some x → x.b.length ≤ 300 ∧ x.keep.length ≤ 300

/-- One call of those that came in. -/
theorem RdP.at {w : World} {ao : Option Addr} {n cap : Nat} {l : List FOp} (h : RdP w (.slice ao n cap) l) {i : Nat} (hi : i < l.length) :
    ∃ x b off ba bc ka kc, l[i]? = some x ∧ ao = some ⟨b, off, none⟩ ∧ OpAt w b (off + i * 5) x (.slice ba x.b.length bc) (.slice ka x.keep.length kc) := by
  obtain ⟨ao', cap', hv, _, _, _, h5⟩ := h
  simp only [Value.slice.injEq] at hv
  obtain ⟨rfl, _, rfl⟩ := hv
  obtain ⟨b, off, vb, vk, e, ho⟩ := h5 i _ (List.getElem?_eq_getElem hi)
  have hb := ho.rb
  have hk := ho.rk
  obtain ⟨ba, bc, rfl, -⟩ := hb
  obtain ⟨ka, kc, rfl, -⟩ := hk
  exact ⟨_, b, off, ba, bc, ka, kc, List.getElem?_eq_getElem hi, e, ho⟩

set_option maxRecDepth 100000 in
set_option maxHeartbeats 1000000 in
theorem fewF_any (v : Value) (l : List FOp) (w : World) (h : RdP w v l) :
    Calls Try.prog 5 #[v] w fun e w' => ∃ F : Bool, e = .returned (.bool F) ∧ (F = true → FewP l) ∧ w' = w := by
  have H := hide h
  obtain ⟨ao, cap, rfl, -⟩ := h
  by_cases hl : l.length ≤ 150
  case neg =>
    have hl' : decide ((l.length : Int) > 150) = true := decide_eq_true (by omega)
    go_enter Try.func5, Try.ntmps5
    go_wp2
    go_ret
    exact ⟨false, rfl, (fun e => by cases e), rfl⟩
  go_enter Try.func5, Try.ntmps5
  go_wp2
  go_loopw [3] (fun vi wr => ∃ k : Nat, vi = .int .i64 (k : Int) ∧ k ≤ l.length ∧ wr = w ∧ Hid (∀ (j : Nat) x, j < k → l[j]? = some x → x.b.length ≤ 300 ∧ x.keep.length ≤ 300)) (fun vi _ => l.length - (intOf vi).toNat)
  case atStart => exact ⟨0, rfl, Nat.zero_le _, rfl, hide (fun j x hj => absurd hj (Nat.not_lt_zero _))⟩
  case round =>
    obtain ⟨k, rfl, hkl, rfl, HP⟩ := hrel
    by_cases hlt : k < l.length
    · obtain ⟨x, b, off, ba, bc, ka, kc, hx, hao, ho⟩ := H.out.at hlt
      have HX := hide hx
      have c3 := ho.c3
      have c4 := ho.c4
      subst hao
      obtain ⟨n1, hn1⟩ : ∃ n, n = x.b.length := ⟨_, rfl⟩
      obtain ⟨n2, hn2⟩ : ∃ n, n = x.keep.length := ⟨_, rfl⟩
      rw [← hn1] at c3
      rw [← hn2] at c4
      have HN := hide (And.intro hn1 hn2)
      clear hx ho hn1 hn2
      by_cases h1 : n1 ≤ 300
      · by_cases h2 : n2 ≤ 300
        · go_wp2
          go_roundw
          case rel =>
            refine ⟨k + 1, by go_num, by omega, by first | trivial | rfl, hide (fun j y hj hy => ?_)⟩
            by_cases e : j = k
            · rw [e, HX.out] at hy
              obtain rfl := Option.some.inj hy
              exact ⟨by rw [← HN.out.1]; exact h1, by rw [← HN.out.2]; exact h2⟩
            · exact HP.out j y (by omega) hy
          case measure => simp [intOf]; omega
        · have h2' : decide ((n2 : Int) > 300) = true := decide_eq_true (by omega)
          go_wp2
          go_ret
          exact ⟨false, rfl, (fun e => by cases e), rfl⟩
      · have h1' : decide ((n1 : Int) > 300) = true := decide_eq_true (by omega)
        go_wp2
        go_ret
        exact ⟨false, rfl, (fun e => by cases e), rfl⟩
    · go_wp2
      go_ret
      exact ⟨true, rfl, fun _ => ⟨hl, fun j x hx => HP.out j x (by have := (List.getElem?_eq_some_iff.1 hx).1; omega) hx⟩, rfl⟩

end Go.Proofs.Ytfhgjnfichgdiaa
