/- Contract of ferrymanref07: Encode. -/
import Derived.Test.YtgmdhlchdjlgnabRef07A
import Derived.Deep.RegionHeld
namespace Go.Proofs.Ytgmdhlchdjlgnab
open Go.RowKit

theorem putOpL_len30 {o : Opn} (h : FitsO o) : (putOpL o).length ≤ 30 := by
  have h1 := uv10 (fits_i64 h).1
  have h2 := uv10 (fits_i64 h).2
  have hc0 : 0 ≤ o.code := h.1
  have hc1 : o.code ≤ 10 := h.2.1
  have h3 := uv10' (n := o.code.toNat) (by omega)
  unfold putOpL
  rw [List.length_append, List.length_append]
  omega

theorem encOne_len {pre : List Rec} (hp : ∀ r ∈ pre, FitsR r) {r : Rec} (hr : FitsR r) : (encOne pre r).length ≤ 60 := by
  have hd := diff_i64 hp hr
  have hresp := fitsR_resp hr
  have h4 := putOpL_len30 hr.1
  obtain ⟨_, _, _, _, _, hp0, hp1, _⟩ := hr
  have h1 := uv10' (n := r.proc.toNat) (by omega)
  have h2 := uv10 hd
  have h3 := uv10 hresp
  unfold encOne
  simp only [List.length_append]
  omega

theorem encRs_len : ∀ (l pre : List Rec), (∀ r ∈ pre, FitsR r) → (∀ r ∈ l, FitsR r) → (encRs pre l).length ≤ 60 * l.length
  | [], _, _, _ => by simp [encRs]
  | r :: t, pre, hp, hl => by
    have h1 := encOne_len hp (hl r (by simp))
    have h2 := encRs_len t (pre ++ [r]) (fun s hs => by
      rcases List.mem_append.1 hs with h | h
      · exact hp s h
      · simp at h; rw [h]; exact hl r (by simp)) (fun s hs => hl s (by simp [hs]))
    rw [encRs, List.length_append, List.length_cons]
    omega

/-- What is encoded: the bytes, or none and ErrArg. -/
def EncodedB (w : World) (l : List Rec) (e : Ending) (w' : World) : Prop :=
  ∃ v', e = .returned (.tuple #[v', .int .i64 (if FitsB l then 0 else 1)]) ∧ Own w' w.heap.size v' (if FitsB l then encB l else []) ∧ Below w.heap.size w w'

end Go.Proofs.Ytgmdhlchdjlgnab
