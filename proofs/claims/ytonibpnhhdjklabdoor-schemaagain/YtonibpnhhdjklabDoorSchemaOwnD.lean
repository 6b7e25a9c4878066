/- Contract of schema: getFields. -/
import Derived.Test.YtonibpnhhdjklabDoorSchemaOwnB
import Derived.Test.YtonibpnhhdjklabDoorSchemaOwnC
import Derived.Test.YtonibpnhhdjklabDoorRef06D
namespace Go.Proofs.YtonibpnhhdjklabDoor
open Go.RowKit

/-- Which fields lack yet: as many as were not found, and of those behind the last one just those that the version has. -/
structure LackK (v : Nat) (L : Int) (K : List Int) (F : Nat) : Prop where
  count : K.length + F = v + 2
  mem : ∀ f : Nat, L < (f : Int) → ((f : Int) ∈ K ↔ hasV v f)
  few : ∀ n ∈ K, 1 ≤ n ∧ n ≤ 5

theorem LackK.start {v : Nat} (h1 : 1 ≤ v) (h3 : v ≤ 3) : LackK v (-1) (fieldsI (v : Int)) 0 := by
  have hv : v = 1 ∨ v = 2 ∨ v = 3 := by omega
  rcases hv with rfl | rfl | rfl
  · refine ⟨rfl, fun f _ => ?_, fun n hn => ?_⟩
    · show (f : Int) ∈ [1, 2, 4] ↔ _
      unfold hasV
      simp
      omega
    · have : n ∈ [1, 2, 4] := hn
      simp at this
      omega
  · refine ⟨rfl, fun f _ => ?_, fun n hn => ?_⟩
    · show (f : Int) ∈ [1, 2, 3, 4] ↔ _
      unfold hasV
      simp
      omega
    · have : n ∈ [1, 2, 3, 4] := hn
      simp at this
      omega
  · refine ⟨rfl, fun f _ => ?_, fun n hn => ?_⟩
    · show (f : Int) ∈ [1, 2, 3, 4, 5] ↔ _
      unfold hasV
      simp
      omega
    · have : n ∈ [1, 2, 3, 4, 5] := hn
      simp at this
      omega

theorem LackK.pass {v : Nat} {L : Int} {K : List Int} {F f : Nat} (h : LackK v L K F) (hf : L < (f : Int)) : LackK v f K F :=
  ⟨h.count, fun g hg => h.mem g (by omega), h.few⟩

theorem LackK.i64 {v : Nat} {L : Int} {K : List Int} {F : Nat} (h : LackK v L K F) : ∀ n ∈ K, I64 n := fun n hn => by
  have := h.few n hn
  exact ⟨by omega, by omega⟩

theorem LackK.there {v : Nat} {L : Int} {K : List Int} {F f : Nat} (h : LackK v L K F) (hf : L < (f : Int)) (hh : hasV v f) : K.idxOf (f : Int) < K.length ∧ placeN (f : Int) K = (K.idxOf (f : Int) : Nat) := by
  have hm := (h.mem f hf).2 hh
  refine ⟨List.idxOf_lt_length_iff.2 hm, ?_⟩
  unfold placeN
  rw [if_pos hm]

theorem LackK.none' {v : Nat} {L : Int} {K : List Int} {F f : Nat} (h : LackK v L K F) (hf : L < (f : Int)) (hh : ¬ hasV v f) : placeN (f : Int) K = -1 := by
  unfold placeN
  rw [if_neg (fun hm => hh ((h.mem f hf).1 hm))]

theorem LackK.strike {v : Nat} {L : Int} {K : List Int} {F f : Nat} (h : LackK v L K F) (hf : L < (f : Int)) (hi : K.idxOf (f : Int) < K.length) : LackK v f (K.take (K.idxOf (f : Int)) ++ K.drop (K.idxOf (f : Int) + 1)) (F + 1) := by
  have he : K[K.idxOf (f : Int)] = (f : Int) := List.getElem_idxOf hi
  generalize K.idxOf (f : Int) = i at *
  have hsub : ∀ n, n ∈ K.take i ++ K.drop (i + 1) → n ∈ K := fun n hn => by
    rcases List.mem_append.1 hn with h1 | h1
    · exact List.mem_of_mem_take h1
    · exact List.mem_of_mem_drop h1
  refine ⟨?_, fun g hg => ?_, fun n hn => h.few n (hsub n hn)⟩
  · have := h.count
    simp
    omega
  · rw [← h.mem g (by omega)]
    refine ⟨hsub _, fun hm => ?_⟩
    have hK : K = K.take i ++ K[i] :: K.drop (i + 1) := by
      rw [List.getElem_cons_drop]
      exact (List.take_append_drop i K).symm
    rw [hK] at hm
    rcases List.mem_append.1 hm with h1 | h1
    · exact List.mem_append.2 (.inl h1)
    · rcases List.mem_cons.1 h1 with h2 | h2
      · exfalso
        rw [he] at h2
        omega
      · exact List.mem_append.2 (.inr h2)

theorem passN_le (l : List UInt8) : passN l ≤ l.length := by
  unfold passN
  split
  · exact Nat.zero_le _
  · omega

/-- The length of a slice. -/
def lenV : Value → Nat
  | .slice _ n _ => n
  | _ => 0

/-- The boxes within getFields. -/
structure FldI (w wr : World) (r : Rec) : Prop where
  res : Bx7 wr w.heap.size zeroR
  box : Bx7 wr (w.heap.size + 1) r
  below : Below w.heap.size w wr

theorem Bx7.cell {w : World} {b : Nat} {r : Rec} (h : Bx7 w b r) (j : Nat) : w.cell? ⟨b, j, none⟩ = #[Value.int .i64 r.idx, .int .i64 r.proc, .int .i64 r.seq, .int .i64 r.op.code, .int .i64 r.op.a, .int .i64 r.op.b, .int .i64 r.resp][j]? ∧ w.frozen? ⟨b, j, none⟩ = false := Br.cell h j

theorem FldI.drewN {w wr : World} {r : Rec} (h : FldI w wr r) (q : Nat) : FldI w (wr.drewN q) r :=
  ⟨Br.below h.res (below_drewN (Below.refl _ _) q) (Nat.le_refl _), Br.below h.box (below_drewN (Below.refl _ _) q) (Nat.le_refl _), below_drewN h.below q⟩

theorem FldI.set {w wr W : World} {r X : Rec} (h : FldI w wr r) (hx : Bx7 W (w.heap.size + 1) X) (hb : But (w.heap.size + 1) (w.heap.size + 1) wr W) : FldI w W X := by
  have hl := Br.lt h.res
  refine ⟨(hb.block _ hl (by omega) (by omega)).trans h.res, hx, ⟨hb.os.trans h.below.os, hb.tape.trans h.below.tape, hb.output.trans h.below.output, Nat.le_trans h.below.size hb.size, fun k hk => ?_⟩⟩
  have := h.below.size
  rw [hb.block k (by omega) (by omega) (by omega)]
  exact h.below.block k hk

theorem FldI.on {w wr W : World} {r : Rec} (h : FldI w wr r) (hb : Below (w.heap.size + 1 + 1) wr W) : FldI w W r := by
  have := h.below.size
  exact ⟨(hb.block _ (by omega)).trans h.res, (hb.block _ (by omega)).trans h.box, h.below.trans (hb.mono (by omega))⟩

/-- What came of the fields: an error, or a record. -/
def FieldsGot (w : World) (D : Rec × Int) (e : Ending) (w' : World) : Prop :=
  ∃ r n, e = .returned (.tuple #[recV r, .int .i64 n]) ∧ (n ≠ 0 ∧ D = (zeroR, n) ∨ n = 0 ∧ D = if FitsR r then (r, 0) else (zeroR, 1)) ∧ Below w.heap.size w w'

/-- A cut of bytes: the value, and what it reads as, in the first world. -/
theorem cut_there (w : World) (ao : Option Addr) (l : List UInt8) (cap : Nat) (hr : Rd w (.slice ao l.length cap) l) (n : Nat) (hn : n ≤ l.length) :
    ∃ a c, Rd w (.slice a (l.drop n).length c) (l.drop n) ∧ ∀ W, (Instr.sliceAt 27 (.slice ao l.length cap) (some (.int .i64 (n : Int))) none none).run Tryd.prog W = .ok (.slice a (l.drop n).length c) W := by
  have h := cut_form w ao cap l hr n hn
  have hlc : l.length ≤ cap := by
    obtain ⟨a, c, e, h, -⟩ := hr
    simp only [Value.slice.injEq] at e
    omega
  refine ⟨_, _, by rw [List.length_drop]; exact h, fun W => ?_⟩
  rw [run_cut_all W ao l cap hlc (n : Int) n rfl hn, List.length_drop]
  simp [sliced]

end Go.Proofs.YtonibpnhhdjklabDoor
