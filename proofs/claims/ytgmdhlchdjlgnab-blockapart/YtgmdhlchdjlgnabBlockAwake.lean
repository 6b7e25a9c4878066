/- awake of layer block answers true: the chapter's example. -/
import Derived.Test.YtgmdhlchdjlgnabBlockOwn
namespace Go.Proofs.Ytgmdhlchdjlgnab
open Go.RowKit

/-- Records, just built. -/
theorem RdR.built (W : World) (N : Nat) (hN : N = W.heap.size) (L : List Rec) (cs : Array Value) (hcs : cs = (recCells L).toArray) (hl : L.length ≤ 1000) (hw : ∀ r ∈ L, RecOk r) :
    RdR (W.alloc (.cells cs 32)) (.slice (some ⟨N, 0, none⟩) L.length L.length) L := by
  subst hN hcs
  refine ⟨some ⟨W.heap.size, 0, none⟩, L.length, rfl, Nat.le_refl _, by unfold maxLen; omega, fun e => (by cases e), hw, .inr ⟨W.heap.size, 0, rfl, fun j hj => ?_⟩⟩
  have hc : ∀ k, k < 7 → (W.alloc (.cells (recCells L).toArray 32)).cell? ⟨W.heap.size, 0 + j * 7 + k, none⟩ = (recC (L.getD j zeroR))[k]? := fun k hk => by
    rw [cell_of_row _ W.heap.size _ _ 32 (0, 0) (heap_alloc_new W _), Nat.zero_add, ← recCells_get L j k hj hk]
    simp
  exact ⟨hc 0 (by decide), hc 1 (by decide), hc 2 (by decide), hc 3 (by decide), hc 4 (by decide), hc 5 (by decide), hc 6 (by decide)⟩

theorem encB_len {l : List Rec} (h : FitsB l) : (encB l).length ≤ 100000 := by
  obtain ⟨_, i0, i1, _⟩ := fitsB_head h
  have h2 := h.2.1
  have u1 := uv10' (n := (l.headD zeroR).idx.toNat) (by omega)
  have u2 := uv10' (n := l.length) (by omega)
  have u3 := encRs_len l [] (fun r hr => by simp at hr) h.2.2.1
  unfold encB
  rw [List.length_append, List.length_append]
  omega

theorem encB_len2 {l : List Rec} (h : FitsB l) : (encB l).length ≤ 20000 := by
  obtain ⟨_, i0, i1, _⟩ := fitsB_head h
  have h2 := h.2.1
  have u1 := uv10' (n := (l.headD zeroR).idx.toNat) (by omega)
  have u2 := uv10' (n := l.length) (by omega)
  have u3 := encRs_len l [] (fun r hr => by simp at hr) h.2.2.1
  unfold encB
  rw [List.length_append, List.length_append]
  omega

def sevenA : Rec := ⟨7, 1, 5, ⟨0, 0, 0⟩, 0⟩
def sevenB : Rec := ⟨8, 1, 6, ⟨0, 0, 0⟩, 0⟩

theorem seven1 : FitsB [sevenA, sevenB] := by decide

theorem seven2 : encB [sevenA, sevenB] = [7, 2, 1, 10, 0, 0, 0, 0, 1, 2, 0, 0, 0, 0] := by
  have z : Lib.zigzag 0 = 0 := rfl
  have z5 : Lib.zigzag 5 = 10 := rfl
  have z1 : Lib.zigzag 1 = 2 := rfl
  simp [encB, encRs, encOne, lastSeq, sevenA, sevenB, putOpL, z, z5, z1, Lib.uvarint_small]

set_option maxRecDepth 100000 in
set_option maxHeartbeats 1000000 in
theorem awake7_any (w : World) : Calls Try.prog 4 #[] w fun e w' => e = .returned (.bool true) ∧ Below w.heap.size w w' := by
  have HE : Hid (∀ W N, N = W.heap.size → Calls Try.prog 5 #[.slice (some ⟨N, 0, none⟩) 2 2] (W.alloc (.cells #[.int .i64 7, .int .i64 1, .int .i64 5, .int .i64 0, .int .i64 0, .int .i64 0, .int .i64 0, .int .i64 8, .int .i64 1, .int .i64 6, .int .i64 0, .int .i64 0, .int .i64 0, .int .i64 0] 32)) fun e w' => ∃ v', e = .returned (.tuple #[v', .int .i64 0]) ∧ Rd w' v' [7, 2, 1, 10, 0, 0, 0, 0, 1, 2, 0, 0, 0, 0] ∧ Below W.heap.size W w') := fun W N hN => by
    have hi : ∀ n : Int, -100 ≤ n → n ≤ 100 → I64 n := fun n h0 h1 => ⟨by omega, by omega⟩
    have h := blockEncode_any _ [sevenA, sevenB] _ (RdR.built W N hN [sevenA, sevenB] _ rfl (by simp) (fun r hr => by
      simp only [List.mem_cons, List.not_mem_nil, or_false] at hr
      rcases hr with rfl | rfl
      · exact ⟨hi 7 (by decide) (by decide), hi 1 (by decide) (by decide), hi 5 (by decide) (by decide), ⟨hi 0 (by decide) (by decide), hi 0 (by decide) (by decide), hi 0 (by decide) (by decide)⟩, hi 0 (by decide) (by decide)⟩
      · exact ⟨hi 8 (by decide) (by decide), hi 1 (by decide) (by decide), hi 6 (by decide) (by decide), ⟨hi 0 (by decide) (by decide), hi 0 (by decide) (by decide), hi 0 (by decide) (by decide)⟩, hi 0 (by decide) (by decide)⟩)) (by simp)
    unfold EncodedB at h
    rw [if_pos seven1, if_pos seven1, seven2] at h
    refine h.mono ?_
    rintro e w' ⟨v', h1, h2, h3⟩
    exact ⟨v', h1, h2.rd, ((Below.refl _ _).alloc (Nat.le_refl _) _).trans (h3.mono (by simp))⟩
  go_enter Try.func4, Try.ntmps4
  go_wp2_with fail
  refine (HE.out _ _ rfl).mono ?_
  rintro e W1 ⟨v1, rfl, hr1, hb1⟩
  have hs1 : (convert 24 9 v1).run Try.prog W1 = .ok (.string ⟨#[7, 2, 1, 10, 0, 0, 0, 0, 1, 2, 0, 0, 0, 0]⟩) W1 := hr1.str
  have HB1 := hide hb1
  clear hr1 hb1 HE
  go_wp2
  go_ret
  exact ⟨rfl, HB1.out⟩

end Go.Proofs.Ytgmdhlchdjlgnab
