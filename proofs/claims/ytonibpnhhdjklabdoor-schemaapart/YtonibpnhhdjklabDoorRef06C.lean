/- Contract of ferrymanref06: Encode. -/
import Derived.Test.YtonibpnhhdjklabDoorRef06B
namespace Go.Proofs.YtonibpnhhdjklabDoor
open Go.RowKit

def encErr (v : Int) (r : Rec) : Int := if 1 ≤ v ∧ v ≤ 3 then (if FitsR r then 0 else 1) else 6

def encL (v : Int) (r : Rec) : List UInt8 := if 1 ≤ v ∧ v ≤ 3 then (if FitsR r then encR v r else []) else []

/-- What is encoded: the bytes, or none and the error. -/
def EncodedR (w : World) (v : Int) (r : Rec) (e : Ending) (w' : World) : Prop :=
  ∃ v', e = .returned (.tuple #[v', .int .i64 (encErr v r)]) ∧ Own w' w.heap.size v' (encL v r) ∧ Below w.heap.size w w'

/-- What stands there ahead of field k. -/
def partR (v : Int) (r : Rec) (k : Nat) : List UInt8 := Lib.uvarint v.toNat ++ encFs r ((fieldsV v).filter (fun f => decide (f < k)))

theorem partR_one {v : Int} (h1 : 1 ≤ v) (h3 : v ≤ 3) (r : Rec) : partR v r 1 = Lib.uvarint v.toNat := by
  have hv : v = 1 ∨ v = 2 ∨ v = 3 := by omega
  rcases hv with rfl | rfl | rfl <;> exact List.append_nil _

theorem partR_six {v : Int} (h1 : 1 ≤ v) (h3 : v ≤ 3) (r : Rec) : partR v r 6 = encR v r := by
  have hv : v = 1 ∨ v = 2 ∨ v = 3 := by omega
  rcases hv with rfl | rfl | rfl <;> rfl

theorem encFs_snoc (r : Rec) (f : Nat) : ∀ fs : List Nat, encFs r (fs ++ [f]) = encFs r fs ++ (Lib.uvarint f ++ bytesF r f)
  | [] => by simp [encFs]
  | g :: gs => by rw [List.cons_append, encFs, encFs_snoc r f gs, encFs]; simp [List.append_assoc]

theorem fields_snoc {v : Int} (h1 : 1 ≤ v) (h3 : v ≤ 3) {k : Nat} (hk1 : 1 ≤ k) (hk5 : k ≤ 5) : (fieldsV v).filter (fun f => decide (f < k + 1)) = (fieldsV v).filter (fun f => decide (f < k)) ++ (if hasV v.toNat k then [k] else []) := by
  have hv : v = 1 ∨ v = 2 ∨ v = 3 := by omega
  have hk : k = 1 ∨ k = 2 ∨ k = 3 ∨ k = 4 ∨ k = 5 := by omega
  rcases hv with rfl | rfl | rfl <;> rcases hk with rfl | rfl | rfl | rfl | rfl <;> decide

theorem partR_has {v : Int} (h1 : 1 ≤ v) (h3 : v ≤ 3) (r : Rec) {k : Nat} (hk1 : 1 ≤ k) (hk5 : k ≤ 5) (hh : hasV v.toNat k) : partR v r (k + 1) = (partR v r k ++ Lib.uvarint k) ++ bytesF r k := by
  unfold partR
  rw [fields_snoc h1 h3 hk1 hk5, if_pos hh, encFs_snoc]
  simp only [List.append_assoc]

theorem partR_not {v : Int} (h1 : 1 ≤ v) (h3 : v ≤ 3) (r : Rec) {k : Nat} (hk1 : 1 ≤ k) (hk5 : k ≤ 5) (hh : ¬ hasV v.toNat k) : partR v r (k + 1) = partR v r k := by
  unfold partR
  rw [fields_snoc h1 h3 hk1 hk5, if_neg hh, List.append_nil]

theorem bytesF_length {r : Rec} (h : FitsR r) (f : Nat) : (bytesF r f).length ≤ 30 := by
  have hr := fitsR_resp h
  obtain ⟨h1, h2, h3, h4, h5, h6, h7, h8, h9⟩ := h
  have u1 := uv10' (n := r.idx.toNat) (by omega)
  have u2 := uv10' (n := r.proc.toNat) (by omega)
  have u3 := uv10' (n := r.seq.toNat) (by omega)
  have u4 := uv10 hr
  have u5 := uv10 (fits_i64 h1).1
  have u6 := uv10 (fits_i64 h1).2
  have u7 := uv10' (n := r.op.code.toNat) (by have := h1.1; have := h1.2.1; omega)
  unfold bytesF putOpL
  repeat' split
  all_goals
    try simp only [List.length_append]
    omega

theorem encFs_length {r : Rec} (h : FitsR r) : ∀ fs : List Nat, (∀ f ∈ fs, f ≤ 5) → (encFs r fs).length ≤ 40 * fs.length
  | [], _ => by simp [encFs]
  | f :: fs, hf => by
    have ih := encFs_length h fs (fun g hg => hf g (by simp [hg]))
    have h1 := bytesF_length h f
    have h2 := uv10' (n := f) (by have := hf f (by simp); omega)
    rw [encFs, List.length_append, List.length_append, List.length_cons]
    omega

theorem fields_five (v : Int) : (fieldsV v).length ≤ 5 ∧ ∀ f ∈ fieldsV v, f ≤ 5 := by
  unfold fieldsV
  repeat' split
  all_goals
    refine ⟨by simp, ?_⟩
    intro f hf
    simp at hf
    omega

theorem partR_length {v : Int} (h1 : 1 ≤ v) (h3 : v ≤ 3) {r : Rec} (h : FitsR r) (k : Nat) : (partR v r k).length ≤ 300 := by
  have h4 := uv10' (n := v.toNat) (by omega)
  have h5 := fields_five v
  have h6 := encFs_length h ((fieldsV v).filter (fun f => decide (f < k))) (fun f hf => h5.2 f (List.mem_filter.1 hf).1)
  have h7 := List.length_filter_le (fun f => decide (f < k)) (fieldsV v)
  unfold partR
  rw [List.length_append]
  omega

end Go.Proofs.YtonibpnhhdjklabDoor
