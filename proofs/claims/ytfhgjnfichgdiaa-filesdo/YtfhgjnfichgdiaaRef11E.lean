/- Contracts of ferrymanref11: dir, Dir, find. -/
import Derived.Test.YtfhgjnfichgdiaaRef11D
import Derived.Test.YtfhgjnfichgdiaaFilesB
namespace Go.Proofs.Ytfhgjnfichgdiaa
open Go.RowKit

theorem OkL.nmi {m : Nat} {l : Dir} (h : OkL m l) (hm : m ≤ 1000000000) : ∀ e ∈ l, NmI e := fun e he => ⟨mayF_i64 (h.may e he).1, by have := (h.may e he).2; omega⟩

/-- The names that a call of dir hands over. -/
def GotN (w w' : World) (kv v : Value) (l : Dir) : Prop := OwnN w' 0 v l ∧ (v = kv ∨ OwnN w' w.heap.size v l) ∧ Below w.heap.size w w'

theorem RefL.waitCells {F : Nat → Prop} {w : World} {p : Nat} {L : RLay} {d : Dk} (h : RefL F w p L d) {j : Nat} (hj : j < d.waits.length) :
    ∃ g off cap, L.wv = .slice (some ⟨g, off, none⟩) d.waits.length cap ∧ g < w.heap.size ∧ ∀ k u, k < 3 → (chC d.waits[j])[k]? = some u → w.cell? ⟨g, off + j * 3 + k, none⟩ = some u := by
  rcases h.waits.2 with ⟨hv, hn⟩ | ⟨g, cap, cur, hv, hb, hg, hnc, hcm, hcs, htake⟩
  · omega
  · refine ⟨g, 0, cap, hv, (Array.getElem?_eq_some_iff.1 hg).1, fun k u hk hu => ?_⟩
    have := World.ownsRow.cells h.waits (g := g) (by rw [hv]; rfl) (j * 3 + k) u ((chCells_get d.waits j k hj hk).trans hu)
    rw [Addr.add_lit] at this
    rw [Nat.add_assoc]
    exact this

set_option maxRecDepth 100000 in
set_option maxHeartbeats 2000000 in
theorem refDir_any {F : Nat → Prop} {p : Nat} {L : RLay} {d : Dk} {N T : Nat} (w : World) (h : RefL F w p L d) (hok : OkD d) (hbn : Bnd d N T) (hN : N ≤ 900000) (m : Nat) (hm : m ≤ d.waits.length) :
    Calls Try.prog 32 #[ptr p, .int .i64 (m : Int)] w fun e w' => ∃ v, e = .returned v ∧ GotN w w' L.kv v (dirK d m) := by
  have H := hide h
  have HLN : Hid (∀ k, (dirK d k).length ≤ 900000) := hide (fun k => by have := dirK_len d k; have := hbn.names; omega)
  have HNM : Hid (∀ k, ∀ e ∈ dirK d k, NmI e) := hide (fun k => (hok.dirs k).nmi (by have := hbn.files; omega))
  have HCH : Hid (∀ c ∈ d.waits, okCh d.files.length c) := hide hok.chs
  have hwn : d.waits.length ≤ 900000 := by have := hbn.names; omega
  have HFN : Hid (d.files.length ≤ 900000) := hide (by have := hbn.files; omega)
  have HCELL : Hid (∀ W, Below w.heap.size w W → W.cell? ⟨p, 2, none⟩ = some L.kv ∧ W.cell? ⟨p, 3, none⟩ = some L.wv) := hide (fun W hW => by
    obtain ⟨⟨-, -, c2, c3, -⟩, -⟩ := (H.out.below hW).cells
    exact ⟨c2, c3⟩)
  have HK0 : Hid (OwnN w 0 L.kv (dirK d 0)) := hide (by rw [dirK_zero]; exact h.kept)
  obtain ⟨⟨-, -, c2, -⟩, -⟩ := h.cells
  clear h hok hbn
  go_enter Try.func32, Try.ntmps32
  go_wp2
  clear c2
  go_loopw [5, 6] (fun vl vi wr => ∃ k : Nat, vi = .int .i64 (k : Int) ∧ k ≤ m ∧ Hid (GotN w wr L.kv vl (dirK d k))) (fun _ vi _ => m - (intOf vi).toNat)
  case atStart => exact ⟨0, rfl, Nat.zero_le _, hide ⟨HK0.out, .inl rfl, Below.refl _ _⟩⟩
  case round =>
    obtain ⟨k, rfl, hkl, HG⟩ := hrel
    by_cases hlt : k < m
    · have hkw : k < d.waits.length := by omega
      have HB : Hid (Below w.heap.size w wr) := hide HG.out.2.2
      have HSZ : Hid (w.heap.size ≤ wr.heap.size) := hide HB.out.size
      have c3 := (HCELL.out wr HB.out).2
      obtain ⟨g, off, cap, hwv, hgl, hcl⟩ := (H.out.below HB.out).waitCells hkw
      rw [hwv] at c3
      obtain ⟨c, hc⟩ : ∃ c, c = d.waits[k] := ⟨_, rfl⟩
      have HE : Hid (dirK d (k + 1) = chD (dirK d k) c) := hide (by rw [hc]; exact dirK_succ d hkw)
      have hcm : c ∈ d.waits := by rw [hc]; exact List.getElem_mem hkw
      have HOC := hide (HCH.out c hcm)
      rw [← hc] at hcl
      have HLL := hide (HLN.out k)
      have HRD := hide (HG.out.1.rd (HNM.out k))
      obtain ⟨av, cv, hv⟩ := HG.out.1.shape
      subst hv
      have HLT := hide hlt
      obtain ⟨D, hD⟩ : ∃ D, D = dirK d k := ⟨_, rfl⟩
      rw [← hD] at HG HE HLL HRD ⊢
      have HNK : Hid (∀ e ∈ dirK d (k + 1), NmI e) := hide (HNM.out (k + 1))
      clear hc hcm hwv hD hgl
      cases c with
      | give n f =>
        have d0 : wr.cell? ⟨g, off + k * 3, none⟩ = some (.int .i64 (n)) := hcl 0 _ (by decide) rfl
        have d1 : wr.cell? ⟨g, off + k * 3 + 1, none⟩ = some (.int .i64 ((f : Int))) := hcl 1 _ (by decide) rfl
        have d2 : wr.cell? ⟨g, off + k * 3 + 2, none⟩ = some (.int .i64 (-1)) := hcl 2 _ (by decide) rfl
        clear hcl
        have hb0 : decide ((-1 : Int) ≥ 0) = false := by decide
        have HX := hide (mayF_i64 HOC.out.1)
        go_wp2_with fail
        refine (refPut_any _ D n f _ (HRD.out.below ((Below.refl wr.heap.size wr).alloc (Nat.le_refl _) _) (Nat.le_refl _)) HX.out HLL.out).mono ?_
        rintro e w1 ⟨v1, rfl, ho1, hb1⟩
        have HON : Hid (OwnN w1 w.heap.size v1 (dirK d (k + 1))) := hide (by rw [HE.out]; exact ho1.mono (by have := HSZ.out; simp; omega))
        have HBN : Hid (Below w.heap.size w w1) := hide ((HB.out.trans (((Below.refl wr.heap.size wr).alloc (Nat.le_refl _) _).mono HSZ.out)).trans (hb1.mono (by have := HSZ.out; simp; omega)))
        obtain ⟨a9, c9, hv9⟩ := HON.out.shape
        subst hv9
        clear ho1 hb1
        go_wp2
        go_roundw
        case rel => exact ⟨k + 1, by go_num, by have := HLT.out; omega, hide ⟨HON.out.mono (Nat.zero_le _), .inr HON.out, HBN.out⟩⟩
        case measure => have := HLT.out; simp [intOf]; omega
      | move n to f =>
        have d0 : wr.cell? ⟨g, off + k * 3, none⟩ = some (.int .i64 (to)) := hcl 0 _ (by decide) rfl
        have d1 : wr.cell? ⟨g, off + k * 3 + 1, none⟩ = some (.int .i64 ((f : Int))) := hcl 1 _ (by decide) rfl
        have d2 : wr.cell? ⟨g, off + k * 3 + 2, none⟩ = some (.int .i64 (n)) := hcl 2 _ (by decide) rfl
        clear hcl
        have hn0 : n ≥ 0 := by have := HOC.out.1; simp [mayN] at this; omega
        have hb0 : decide (n ≥ 0) = true := decide_eq_true hn0
        have HX := hide (mayF_i64 HOC.out.1)
        have HY := hide (mayF_i64 HOC.out.2.1)
        clear hn0
        go_wp2_with fail
        refine (refDel_any _ D n _ (HRD.out.below ((Below.refl wr.heap.size wr).alloc (Nat.le_refl _) _) (Nat.le_refl _)) HX.out HLL.out).mono ?_
        rintro e w1 ⟨v1, rfl, ho1, hb1⟩
        have e0 : w1.cell? ⟨wr.heap.size, 0, none⟩ = some (.int .i64 to) := (World.cell?_of_block (a := ⟨wr.heap.size, 0, none⟩) (hb1.block wr.heap.size (by simp))).trans (cell_of_row _ wr.heap.size 0 _ 81 (0, 0) (heap_alloc_new wr _))
        have e1 : w1.cell? ⟨wr.heap.size, 1, none⟩ = some (.int .i64 (f : Int)) := (World.cell?_of_block (a := ⟨wr.heap.size, 1, none⟩) (hb1.block wr.heap.size (by simp))).trans (cell_of_row _ wr.heap.size 1 _ 81 (0, 0) (heap_alloc_new wr _))
        have HB1 : Hid (Below w.heap.size w w1) := hide ((HB.out.trans (((Below.refl wr.heap.size wr).alloc (Nat.le_refl _) _).mono HSZ.out)).trans (hb1.mono (by have := HSZ.out; simp; omega)))
        have HS1 : Hid (w.heap.size ≤ w1.heap.size) := hide HB1.out.size
        have HR1 : Hid (RdN w1 v1 (setN D n none)) := hide (ho1.rd (fun e he => by
          rw [mem_setN] at he
          rcases he with ⟨he, _⟩ | ⟨_, he⟩
          · obtain ⟨_, _, _, _, _, _, hq, _⟩ := HRD.out
            exact hq e he
          · cases he))
        have HL1 : Hid ((setN D n none).length ≤ 900000) := hide (by have h2 : (setN D n none).length ≤ D.length := by rw [setN, setG_true]; exact List.length_filter_le _ _
                                                                     have := HLL.out; omega)
        clear ho1
        clear c3 d0 d1 d2
        go_wp2_with fail
        refine (refPut_any _ (setN D n none) to f _ HR1.out HY.out HL1.out).mono ?_
        rintro e w2 ⟨v2, rfl, ho2, hb2⟩
        have HON : Hid (OwnN w2 w.heap.size v2 (dirK d (k + 1))) := hide (by rw [HE.out]; exact ho2.mono (by have := HSZ.out; have := hb1.size; simp at this; omega))
        have HBN : Hid (Below w.heap.size w w2) := hide (HB1.out.trans (hb2.mono HS1.out))
        obtain ⟨a9, c9, hv9⟩ := HON.out.shape
        subst hv9
        clear ho2 hb2
        go_wp2
        go_roundw
        case rel => exact ⟨k + 1, by go_num, by have := HLT.out; omega, hide ⟨HON.out.mono (Nat.zero_le _), .inr HON.out, HBN.out⟩⟩
        case measure => have := HLT.out; simp [intOf]; omega
      | take n =>
        have d0 : wr.cell? ⟨g, off + k * 3, none⟩ = some (.int .i64 (n)) := hcl 0 _ (by decide) rfl
        have d1 : wr.cell? ⟨g, off + k * 3 + 1, none⟩ = some (.int .i64 (-1)) := hcl 1 _ (by decide) rfl
        have d2 : wr.cell? ⟨g, off + k * 3 + 2, none⟩ = some (.int .i64 (-1)) := hcl 2 _ (by decide) rfl
        clear hcl
        have hb0 : decide ((-1 : Int) ≥ 0) = false := by decide
        have HX := hide (mayF_i64 HOC.out)
        go_wp2_with fail
        refine (refDel_any _ D n _ (HRD.out.below ((Below.refl wr.heap.size wr).alloc (Nat.le_refl _) _) (Nat.le_refl _)) HX.out HLL.out).mono ?_
        rintro e w1 ⟨v1, rfl, ho1, hb1⟩
        have HON : Hid (OwnN w1 w.heap.size v1 (dirK d (k + 1))) := hide (by rw [HE.out]; exact ho1.mono (by have := HSZ.out; simp; omega))
        have HBN : Hid (Below w.heap.size w w1) := hide ((HB.out.trans (((Below.refl wr.heap.size wr).alloc (Nat.le_refl _) _).mono HSZ.out)).trans (hb1.mono (by have := HSZ.out; simp; omega)))
        obtain ⟨a9, c9, hv9⟩ := HON.out.shape
        subst hv9
        clear ho1 hb1
        go_wp2
        go_roundw
        case rel => exact ⟨k + 1, by go_num, by have := HLT.out; omega, hide ⟨HON.out.mono (Nat.zero_le _), .inr HON.out, HBN.out⟩⟩
        case measure => have := HLT.out; simp [intOf]; omega
    · obtain rfl : k = m := by omega
      go_wp2
      go_ret
      exact ⟨_, rfl, HG.out⟩

end Go.Proofs.Ytfhgjnfichgdiaa
