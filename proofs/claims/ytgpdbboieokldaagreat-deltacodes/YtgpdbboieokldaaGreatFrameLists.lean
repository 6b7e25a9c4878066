/- Slices of slices of bytes: what one reads ('RdL'), what a call makes ('OwnL'), and that one more is put behind them. -/
import Derived.Test.YtgpdbboieokldaaGreatPack3
namespace Go.Proofs.YtgpdbboieokldaaGreat
open Go.RowKit

/-- The slice value v reads as these lists of bytes. -/
def RdL (w : World) (v : Value) (L : List (List UInt8)) : Prop :=
  ∃ ao cap, v = .slice ao L.length cap ∧ L.length ≤ cap ∧ cap ≤ maxLen ∧ (ao = none → cap = 0) ∧
    (L = [] ∨ ∃ b off, ao = some ⟨b, off, none⟩ ∧ ∀ j, j < L.length → ∃ x, w.cell? ⟨b, off + j, none⟩ = some x ∧ Rd w x (L.getD j []))

/-- The slice value v lies in a row of its own, from block B on, of slices that lie each in a row of its own. -/
def OwnL (w : World) (B : Nat) (v : Value) (L : List (List UInt8)) : Prop :=
  ∃ xs : List Value, w.ownsRow B 26 1 v L.length xs ∧ ∀ j, j < L.length → ∃ x, xs[j]? = some x ∧ Own w B x (L.getD j [])

theorem RdL.nil (w : World) : RdL w (.slice none 0 0) [] := ⟨none, 0, rfl, Nat.le_refl _, Nat.zero_le _, fun _ => rfl, .inl rfl⟩

theorem OwnL.nil (w : World) (B : Nat) : OwnL w B (.slice none 0 0) [] := ⟨[], World.ownsRow_nil w B 26 1, fun j hj => by simp at hj⟩

theorem RdL.below {w w' : World} {v : Value} {L : List (List UInt8)} (h : RdL w v L) {B : Nat} (hb : Below B w w') (hB : w.heap.size ≤ B) : RdL w' v L := by
  obtain ⟨ao, cap, h1, h2, h3, hn, h4⟩ := h
  refine ⟨ao, cap, h1, h2, h3, hn, ?_⟩
  rcases h4 with h4 | ⟨b, off, h5, h6⟩
  · exact .inl h4
  · refine .inr ⟨b, off, h5, fun j hj => ?_⟩
    obtain ⟨x, hc, hr⟩ := h6 j hj
    have hlt : b < w.heap.size := World.block_lt_of_cell? w ⟨b, off + j, none⟩ hc
    refine ⟨x, ?_, hr.below hb hB⟩
    rw [hb.cell (p := ⟨b, off + j, none⟩) (by exact Nat.lt_of_lt_of_le hlt hB)]
    exact hc

theorem RdL.front {w : World} {ao : Option Addr} {n cap : Nat} {L : List (List UInt8)} (h : RdL w (.slice ao n cap) L) (k : Nat) (hk : k ≤ L.length) : RdL w (.slice ao k cap) (L.take k) := by
  obtain ⟨ao', cap', hv, h1, h2, h3, h4⟩ := h
  simp only [Value.slice.injEq] at hv
  obtain ⟨rfl, _, rfl⟩ := hv
  have hlen : (L.take k).length = k := by simp; omega
  refine ⟨ao, cap, by rw [hlen], by omega, h2, h3, ?_⟩
  rcases h4 with h4 | ⟨b, off, h5, h6⟩
  · exact .inl (by rw [h4]; simp)
  · refine .inr ⟨b, off, h5, fun j hj => ?_⟩
    have hj2 : j < k := by omega
    obtain ⟨x, hc, hr⟩ := h6 j (by omega)
    refine ⟨x, hc, ?_⟩
    have e : (L.take k).getD j [] = L.getD j [] := by simp [List.getD, hj2]
    rw [e]
    exact hr

theorem OwnL.rd {w : World} {B : Nat} {v : Value} {L : List (List UInt8)} (h : OwnL w B v L) : RdL w v L := by
  obtain ⟨xs, h1, h2⟩ := h
  rcases h1.2 with ⟨hv, hn⟩ | ⟨g, cap, cur, hv, hb, hg, hnc, hcm, hcs, htake⟩
  · exact ⟨none, 0, by rw [hv, hn], by omega, Nat.zero_le _, fun _ => rfl, .inl (List.eq_nil_of_length_eq_zero hn)⟩
  · refine ⟨some ⟨g, 0, none⟩, cap, hv, hnc, hcm, (fun e => by cases e), .inr ⟨g, 0, rfl, fun j hj => ?_⟩⟩
    obtain ⟨x, hx, ho⟩ := h2 j hj
    have := World.ownsRow.cells h1 (g := g) (by rw [hv]; rfl) j _ hx
    rw [Addr.add_lit] at this
    exact ⟨x, this, ho.rd⟩

theorem OwnL.mono {w : World} {B B' : Nat} {v : Value} {L : List (List UInt8)} (h : OwnL w B v L) (hB : B' ≤ B) : OwnL w B' v L := by
  obtain ⟨xs, ⟨h1, h2⟩, h3⟩ := h
  refine ⟨xs, ⟨h1, ?_⟩, fun j hj => ?_⟩
  · rcases h2 with h2 | ⟨g, cap, cur, hv, hb, r⟩
    · exact .inl h2
    · exact .inr ⟨g, cap, cur, hv, by omega, r⟩
  · obtain ⟨x, hx, ho⟩ := h3 j hj
    exact ⟨x, hx, ho.mono hB⟩

theorem OwnL.below {w w' : World} {B B' : Nat} {v : Value} {L : List (List UInt8)} (h : OwnL w B v L) (hb : Below B' w w') (hB : w.heap.size ≤ B') : OwnL w' B v L := by
  obtain ⟨xs, ⟨h1, h2⟩, h3⟩ := h
  refine ⟨xs, ⟨h1, ?_⟩, fun j hj => ?_⟩
  · rcases h2 with h2 | ⟨g, cap, cur, hv, hbg, hg, r⟩
    · exact .inl h2
    · have hlt : g < w.heap.size := (Array.getElem?_eq_some_iff.1 hg).1
      exact .inr ⟨g, cap, cur, hv, hbg, by rw [hb.block g (by omega)]; exact hg, r⟩
  · obtain ⟨x, hx, ho⟩ := h3 j hj
    exact ⟨x, hx, ho.below hb hB⟩

theorem info_bytes : (Tryz.prog.info? 26).map (fun i => (i.zero, i.size, i.bytes)) = some (some (.slice none 0 0), 1, 24) := by kernel_rfl

/-- A row of bytes is no row of slices. -/
theorem own_apart {w : World} {B B' : Nat} {v x : Value} {n : Nat} {xs : List Value} {l : List UInt8} (h1 : w.ownsRow B 26 1 v n xs) (h2 : Own w B' x l) : x.ownBlock = none ∨ x.ownBlock ≠ v.ownBlock := by
  rcases h2.2 with ⟨hv, _⟩ | ⟨g, cap, cur, hv, _, hg, _⟩
  · exact .inl (by rw [hv]; rfl)
  · right
    rcases h1.2 with ⟨hv', _⟩ | ⟨g', cap', cur', hv', _, hg', _⟩
    · rw [hv, hv']
      exact fun e => by cases e
    · rw [hv, hv']
      intro e
      have e' : g = g' := by simpa [Value.ownBlock] using e
      rw [e', hg'] at hg
      have h3 : (26 : Nat) = 5 := by
        injection hg with hg
        injection hg
      exact absurd h3 (by decide)

end Go.Proofs.YtgpdbboieokldaaGreat
