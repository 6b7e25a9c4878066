/- A map of names has as many entries as there are names. -/
import Derived.Test.YtfhgjnfichgdiaaFilesG
namespace Go.Proofs.Ytfhgjnfichgdiaa
open Go.RowKit Go.Maps
open Go.ChangeMaps Go.MapKept
open Go.WideElems (Fit rd rg pl rd_val elemAt)

theorem nodup_len : ∀ {a b : List Int}, a.Nodup → (∀ x ∈ a, x ∈ b) → a.length ≤ b.length
  | [], _, _, _ => Nat.zero_le _
  | x :: a, b, hn, hs => by
    rw [List.nodup_cons] at hn
    have hx := hs x (List.mem_cons_self ..)
    have ih := nodup_len (a := a) (b := b.erase x) hn.2 fun y hy => (List.mem_erase_of_ne (by rintro rfl; exact hn.1 hy)).2 (hs y (List.mem_cons_of_mem _ hy))
    have hl := List.length_erase_of_mem hx
    have hp := List.length_pos_of_mem hx
    rw [List.length_cons]
    omega

def toI : Value → Int
  | .int _ x => x
  | _ => 0

theorem MapP.tight {w : World} {b n : Nat} {f : Int → Option Nat} (h : MapP w b n f) {l : List Int} (hl : ∀ p, I64 p → (f p).isSome = true → p ∈ l) : MapP w b l.length f := by
  obtain ⟨D, ⟨es, clock, hb, F, hs, rfl⟩, h2⟩ := h
  have hkey : ∀ e ∈ es.toList, ∃ x, e.key = .int .i64 x ∧ I64 x := fun e he => by
    obtain ⟨y, hy⟩ := F.reads e he
    obtain ⟨x, hx, _, hw⟩ := Maps.keyOf_int_inv Try.underlying3 (WideElems.rd_key hy)
    exact ⟨x, hx, i64_of_wf hw⟩
  refine ⟨_, ⟨es, clock, hb, F, ?_, rfl⟩, h2⟩
  have hnd : (es.toList.map fun e => toI e.key).Nodup := by
    have hp := ((stamped_iff es clock).1 F.stamped).2.2
    rw [List.Nodup, List.pairwise_map]
    refine List.Pairwise.imp_of_mem ?_ hp
    intro a c ha hc hne e
    obtain ⟨x, hx, _⟩ := hkey a ha
    obtain ⟨y, hy, _⟩ := hkey c hc
    rw [hx, hy] at e
    have : x = y := e
    exact hne (by rw [hx, hy, this])
  have hsub : ∀ x ∈ (es.toList.map fun e => toI e.key), x ∈ l := fun x hx => by
    obtain ⟨e, he, rfl⟩ := List.mem_map.1 hx
    obtain ⟨x, hx, hi⟩ := hkey e he
    rw [hx]
    refine hl x hi ?_
    rcases Maps.fit_look false dirKeys Try.underlying51 (dirZero w) hb F (keyOf_int_mk Try.underlying3 (wf64p hi)) with ⟨_, hno, _⟩ | ⟨e0, y, _, _, _, hRv, hat, _⟩
    · exact absurd hx (hno e he)
    · cases ef : f x with
      | some _ => rfl
      | none =>
        obtain ⟨z0, _, rfl⟩ := ptrElem_inv hRv
        refine (lit_ne (x := z0) fun z => ?_).elim
        have h3 := hat z
        rw [h2 x hi z, ef] at h3
        exact h3.symm
  have := nodup_len hnd hsub
  simpa using this

end Go.Proofs.Ytfhgjnfichgdiaa
