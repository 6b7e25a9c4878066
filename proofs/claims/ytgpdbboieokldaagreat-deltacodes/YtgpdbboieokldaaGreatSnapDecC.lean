/- Contract of snapshot: readTable. -/
import Derived.Test.YtgpdbboieokldaaGreatSnapDecB
import Derived.Test.YtgpdbboieokldaaGreatRef09G
import Derived.Test.YtgpdbboieokldaaGreatPack4
namespace Go.Proofs.YtgpdbboieokldaaGreat
open Go.RowKit

/-- How far the reading of a table is from its end. -/
def leftM (v6 v7 : Value) : Nat :=
  match v7 with
  | .bool true => (match v6 with
    | .slice _ n _ => n + 1
    | _ => 0)
  | _ => 0

theorem leftM_true (a : Option Addr) (n c : Nat) : leftM (.slice a n c) (.bool true) = n + 1 := rfl

theorem leftM_false (v : Value) : leftM v (.bool false) = 0 := rfl

theorem step1_less {b : List UInt8} {y : Ent × List UInt8} (h : step1 b = some y) : y.2.length + 1 ≤ b.length := by
  unfold step1 at h
  rw [getsL_two] at h
  split at h
  · cases h
  · rename_i ns l hg
    split at hg
    · cases hg
    · rename_i h1
      split at hg
      · cases hg
      · injection hg with hg
        injection hg with _ hl
        split at h
        · cases h
        · rename_i h3
          injection h with h
          rw [← h]
          have h4 := dec64_le l
          show (l.drop _).length + 1 ≤ _
          rw [List.length_drop]
          have h5 : l.length ≤ b.length := by
            rw [← hl, List.length_drop, List.length_drop]
            omega
          omega

theorem two_new' (w : World) (x y : Obj) : ((w.alloc x).alloc y).heap[w.heap.size]? = some x ∧ ((w.alloc x).alloc y).heap[w.heap.size + 1]? = some y := by
  refine ⟨(Below.heap_alloc _ _ _ (by simp)).trans (heap_alloc_new w x), ?_⟩
  have := heap_alloc_new (w.alloc x) y
  simpa using this

theorem getsL_some1 {b : List UInt8} {ns : List Nat} {l : List UInt8} (h : getsL 1 b = some (ns, l)) : (dec62 b).2 ≠ 0 ∧ ns = [(dec62 b).1] ∧ l = b.drop (dec62 b).2 := by
  rw [getsL_one] at h
  split at h
  · cases h
  · rename_i h1
    injection h with h
    injection h with h2 h3
    exact ⟨h1, h2.symm, h3.symm⟩

theorem getsL_none1 {b : List UInt8} (h : getsL 1 b = none) : (dec62 b).2 = 0 := by
  rw [getsL_one] at h
  split at h
  · assumption
  · cases h

theorem OwnE.butD {w w' : World} {B R T : Nat} {v : Value} {l : List Ent} (h : OwnE w B v l) (hb : But R T w w') (hn' : ∀ b, v.ownBlock = some b → b ≠ R ∧ b ≠ T) : OwnE w' B v l := by
  rcases h.row with ⟨rfl, rfl⟩ | ⟨g, cap, cur, rfl, hBg, hlt, hg, hn, hm, hs, hc⟩
  · exact OwnE.nil _ _
  · have := hn' g rfl
    exact OwnE.ofRow rfl hBg ((hb.block g hlt this.1 this.2).trans hg) hn hm hs hc

end Go.Proofs.YtgpdbboieokldaaGreat
