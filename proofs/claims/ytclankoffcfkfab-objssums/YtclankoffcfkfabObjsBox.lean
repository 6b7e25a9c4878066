/- A state that is kept in a box and stepped on. -/
import Derived.Test.YtclankoffcfkfabObjsInts
import Derived.Deep.RegionHeld
namespace Go.Proofs.Ytclankoffcfkfab
open Go.RowKit

/-- The box B, laid behind w, holds the state sk, whose numbers are at vk. -/
structure BoxAt (w : World) (B : Nat) (wr : World) (vk : Value) (sk : St) : Prop where
  old : w.heap.size ≤ B
  box : Bx wr B #[.int .i64 sk.kind, vk, .bool sk.shut, .int .i64 sk.eng]
  rd : RdI wr vk sk.L
  ki : I64 sk.kind
  ei : I64 sk.eng
  apart : sk.L = [] ∨ ∀ b, vk.ownBlock = some b → b ≠ B
  below : Below w.heap.size w wr

theorem BoxAt.st {w : World} {B : Nat} {wr : World} {vk : Value} {sk : St} (h : BoxAt w B wr vk sk) : StV wr (.agg #[.int .i64 sk.kind, vk, .bool sk.shut, .int .i64 sk.eng]) sk := ⟨_, rfl, h.rd, h.ki, h.ei⟩

theorem BoxAt.on {w : World} {B : Nat} {wr : World} {vk : Value} {sk : St} (h : BoxAt w B wr vk sk) {w2 F : World} {v2 : Value} {s2 : St} (hr2 : RdI w2 v2 s2.L) (hk : I64 s2.kind) (he : I64 s2.eng) (hd : (v2 = vk ∧ s2.L = sk.L) ∨ ∀ b, v2.ownBlock = some b → wr.heap.size ≤ b) (hb2 : Below wr.heap.size wr w2)
    {T : Nat} (hbut : But B T w2 F) (hFb : Bx F B #[.int .i64 s2.kind, v2, .bool s2.shut, .int .i64 s2.eng]) (hT : wr.heap.size ≤ T) (hTn : s2.L = [] ∨ ∀ b, v2.ownBlock = some b → b ≠ T) : BoxAt w B F v2 s2 := by
  have hlt := h.box.lt
  have hap : s2.L = [] ∨ ∀ b, v2.ownBlock = some b → b ≠ B := by
    rcases hd with ⟨rfl, hl⟩ | hd
    · rcases h.apart with ha | ha
      · exact .inl (hl.trans ha)
      · exact .inr ha
    · exact .inr fun b hb => by have := hd b hb; omega
  refine ⟨h.old, hFb, hr2.but hbut ?_, hk, he, hap, ?_⟩
  · rcases hap with h0 | h0
    · exact .inl h0
    · rcases hTn with h1 | h1
      · exact .inl h1
      · exact .inr fun b hb => ⟨h0 b hb, h1 b hb⟩
  · have hs2 := hb2.size
    have hbs := h.below.size
    have ho := h.old
    refine ⟨hbut.os.trans (hb2.os.trans h.below.os), hbut.tape.trans (hb2.tape.trans h.below.tape), hbut.output.trans (hb2.output.trans h.below.output), by have := hbut.size; omega, fun j hj => ?_⟩
    rw [hbut.block j (by omega) (by omega) (by omega), hb2.block j (by omega)]
    exact h.below.block j hj

/-- The new box laid behind the call. -/
theorem BoxAt.next {w : World} {B : Nat} {wr : World} {vk : Value} {sk : St} (h : BoxAt w B wr vk sk) {w2 : World} {v2 : Value} {k' g' : Int} {L' : List Int} {s' : Bool} (hr2 : RdI w2 v2 L') (hk : I64 k') (he : I64 g') (hd : (v2 = vk ∧ L' = sk.L) ∨ ∀ b, v2.ownBlock = some b → wr.heap.size ≤ b) (hb2 : Below wr.heap.size wr w2) (X : Obj) :
    BoxAt w B (((((w2.setCell ⟨B, 0, none⟩ (.int .i64 k')).setCell ⟨B, 1, none⟩ v2).setCell ⟨B, 2, none⟩ (.bool s')).setCell ⟨B, 3, none⟩ (.int .i64 g')).alloc X) v2 ⟨k', L', s', g'⟩ := by
  have hlt := h.box.lt
  have hs2 := hb2.size
  refine h.on (s2 := ⟨k', L', s', g'⟩) hr2 hk he hd hb2 (T := w2.heap.size) (((But.refl _ _ _).four _ (.inl rfl) _ _ _ _).alloc _) ?_ hs2 ?_
  · refine (Below.heap_alloc _ _ _ (by rw [size_four]; omega)).trans ?_
    exact heap_four w2 _ _ _ _ _ _ (h.box.below hb2 (Nat.le_refl _)) _ _ _ _
  · rcases hr2.block with h0 | ⟨_, b, hb, hlt⟩
    · exact .inl h0
    · exact .inr fun b' hb' => by rw [hb] at hb'; injection hb' with hb'; omega

/-- The new box laid ahead of the call. -/
theorem BoxAt.next2 {w : World} {B : Nat} {wr : World} {vk : Value} {sk : St} (h : BoxAt w B wr vk sk) {w2 : World} {v2 : Value} {k' g' : Int} {L' : List Int} {s' : Bool} (hr2 : RdI w2 v2 L') (hk : I64 k') (he : I64 g') (hd : (v2 = vk ∧ L' = sk.L) ∨ ∀ b, v2.ownBlock = some b → wr.heap.size + 1 ≤ b) (hb2 : Below wr.heap.size wr w2) :
    BoxAt w B ((((((((w2.setCell ⟨wr.heap.size, 0, none⟩ (.int .i64 k')).setCell ⟨wr.heap.size, 1, none⟩ v2).setCell ⟨wr.heap.size, 2, none⟩ (.bool s')).setCell ⟨wr.heap.size, 3, none⟩ (.int .i64 g')).setCell ⟨B, 0, none⟩ (.int .i64 k')).setCell ⟨B, 1, none⟩ v2).setCell ⟨B, 2, none⟩ (.bool s')).setCell ⟨B, 3, none⟩ (.int .i64 g')) v2 ⟨k', L', s', g'⟩ := by
  have hlt := h.box.lt
  refine h.on (s2 := ⟨k', L', s', g'⟩) hr2 hk he ?_ hb2 (T := wr.heap.size) (((But.refl _ _ _).four _ (.inr rfl) _ _ _ _).four _ (.inl rfl) _ _ _ _) ?_ (Nat.le_refl _) ?_
  · rcases hd with hd | hd
    · exact .inl hd
    · exact .inr fun b hb => by have := hd b hb; omega
  · refine heap_four _ _ (.int .i64 sk.kind) vk (.bool sk.shut) (.int .i64 sk.eng) _ ?_ _ _ _ _
    rw [Below.heap_setCell _ _ _ _ (by show B ≠ wr.heap.size; omega), Below.heap_setCell _ _ _ _ (by show B ≠ wr.heap.size; omega), Below.heap_setCell _ _ _ _ (by show B ≠ wr.heap.size; omega), Below.heap_setCell _ _ _ _ (by show B ≠ wr.heap.size; omega)]
    exact h.box.below hb2 (Nat.le_refl _)
  · rcases hd with ⟨rfl, hl⟩ | hd
    · rcases h.rd.block with h0 | ⟨_, b, hb, hlt⟩
      · exact .inl (hl.trans h0)
      · exact .inr fun b' hb' => by rw [hb] at hb'; injection hb' with hb'; omega
    · exact .inr fun b hb => by have := hd b hb; omega

end Go.Proofs.Ytclankoffcfkfab
