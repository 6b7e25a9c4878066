/- Contracts of the landed files: apply, free; a file that is new. -/
import Derived.Test.YtfhgjnfichgdiaaFilesB

namespace Go.Proofs.Ytfhgjnfichgdiaa
open Go.RowKit

theorem rowShape {w : World} {base n s : Nat} {t : TypeId} {v : Value} {xs : List Value} (h : w.ownsRow base t s v n xs) : ∃ ao m cp, v = .slice ao m cp := by
  rcases h.2 with ⟨hv, _⟩ | ⟨g, cap, cur, hv, _⟩
  · exact ⟨_, _, _, hv⟩
  · exact ⟨_, _, _, hv⟩

theorem gr_set (F : Nat → Prop) (w w2 : World) (a : Addr) (v : Value) : Gr F w (w2.setCell a v) = Gr F w w2 := by
  funext k
  simp [Gr]

/-- What apply does. -/
def Applied (F : Nat → Prop) (w : World) (p : Nat) (L : Lay) (d : Dk) (u : Int) (N : Nat) (c : Ch) (e : Ending) (w' : World) : Prop :=
  e = .returned (.tuple #[]) ∧ ∃ L', DiskL (Gr F w w') w' p L' { d with waits := d.waits ++ [c] } u (N + 1) ∧ L'.ps = L.ps ∧ L'.vs = L.vs ∧ Only F w w'

set_option maxRecDepth 100000 in
set_option maxHeartbeats 2000000 in
theorem apply_any {F : Nat → Prop} {p : Nat} {L : Lay} {d : Dk} {u : Int} {N : Nat} {c : Ch} {cv : Value} (w : World) (h : DiskL F w p L d u N) (hc : ChV F w L.ps c cv) (hok : OkD d) (hco : okCh d.files.length c) (hN : N ≤ 1000000) (hW : d.waits.length ≤ 1000000) :
    Calls Try.prog 34 #[ptr p, cv] w fun e w' => Applied F w p L d u N c e w' := by
  have H := hide h
  have HOK := hide hok
  have HCO := hide hco
  obtain ⟨⟨-, -, c2, -, -, -⟩, -⟩ := h.cells
  have HNP : Hid (L.now ≠ p) := hide (h.head.neMap h.rest.now).symm
  have HWN : Hid (∀ g, L.wv.ownBlock = some g → g ≠ L.now) := hide (fun g hg => by
    obtain ⟨cs', hb'⟩ := ownBk h.rest.row hg
    exact hb'.neMap h.rest.now)
  clear h hok hco
  cases c with
  | give n f =>
    obtain ⟨b1, b2, rfl, h1, h2, f1, f2⟩ := hc
    have HCH : Hid (ChV F w L.ps (.give n f) (.func (.func 53) #[] #[ptr b2, ptr b1])) := hide ⟨b1, b2, rfl, h1, h2, f1, f2⟩
    have HK := hide (giveC_any (f := f) HCO.out.1 w h1 h2 H.out.rest.now (by omega))
    go_enter Try.func34, Try.ntmps34
    go_wp2_with fail
    refine HK.out.mono ?_
    rintro e w1 ⟨rfl, hm1, hg1⟩
    have HM1 := hide hm1
    have HG1 := hide hg1
    have h4 := H.out.head.keep (hg1.block p H.out.head.lt (fun e => HNP.out (Option.some.inj e).symm))
    obtain ⟨c4, f4⟩ := h4.cell 4 rfl
    have HR1 : Hid (w1.ownsRow 0 73 1 L.wv L.cs.length L.cs) := hide (ownsRow_keep H.out.rest.row fun g hg => hg1.block g (World.ownsRow.lt H.out.rest.row g hg).2 (fun e => HWN.out g hg (Option.some.inj e)))
    clear hm1 hg1 h4
    have HP4 : Hid (p < w1.heap.size) := hide (Nat.lt_of_lt_of_le H.out.head.lt HG1.out.size)
    go_wp2_with (at_builtin; refine (fun (h : True → _) => h trivial) ?_)
    intro _
    refine wpList_append_ch w1 rfl _ _ rfl L.wv L.cs rfl HR1.out _ _ _ rfl (by have := H.out.rest.many; omega) ?_
    intro v' w2 hr2 hg2 hv2
    have HR2 := hide hr2
    have HG2 := hide hg2
    have HV2 := hide hv2
    have h5 : Bk 55 w2 p (headC L d u) := (H.out.head.keep (HG1.out.block p H.out.head.lt (fun e => HNP.out (Option.some.inj e).symm))).keep ((hg2.block p (by simp; have := HP4.out; omega) (fun e => by
      obtain ⟨cs', hb'⟩ := ownBk HR1.out e.symm
      exact (hb'.ne (H.out.head.keep (HG1.out.block p H.out.head.lt (fun e => HNP.out (Option.some.inj e).symm))) (by decide)) rfl)).trans (Below.heap_alloc _ _ _ HP4.out))
    obtain ⟨d4, g4⟩ := h5.cell 4 rfl
    obtain ⟨ao, nn, cp, rfl⟩ := rowShape hr2
    clear hr2 hg2 hv2 h5 c4 f4
    go_wp2
    go_end0
    obtain ⟨hd, hon⟩ := H.out.addWait HCH.out HOK.out HCO.out HG1.out HM1.out HR2.out HG2.out HV2.out
    rw [← gr_set F w w2 ⟨p, 4, none⟩ (.slice ao nn cp)] at hd
    exact ⟨rfl, _, hd, rfl, rfl, hon⟩
  | move n m f =>
    obtain ⟨b1, b2, b3, rfl, h1, h2, h3, f1, f2, f3⟩ := hc
    have HCH : Hid (ChV F w L.ps (.move n m f) (.func (.func 57) #[] #[ptr b3, ptr b2, ptr b1])) := hide ⟨b1, b2, b3, rfl, h1, h2, h3, f1, f2, f3⟩
    have HK := hide (moveC_any (f := f) HCO.out.1 HCO.out.2.1 w h1 h2 h3 H.out.rest.now (by omega))
    go_enter Try.func34, Try.ntmps34
    go_wp2_with fail
    refine HK.out.mono ?_
    rintro e w1 ⟨rfl, hm1, hg1⟩
    have HM1 := hide hm1
    have HG1 := hide hg1
    have h4 := H.out.head.keep (hg1.block p H.out.head.lt (fun e => HNP.out (Option.some.inj e).symm))
    obtain ⟨c4, f4⟩ := h4.cell 4 rfl
    have HR1 : Hid (w1.ownsRow 0 73 1 L.wv L.cs.length L.cs) := hide (ownsRow_keep H.out.rest.row fun g hg => hg1.block g (World.ownsRow.lt H.out.rest.row g hg).2 (fun e => HWN.out g hg (Option.some.inj e)))
    clear hm1 hg1 h4
    have HP4 : Hid (p < w1.heap.size) := hide (Nat.lt_of_lt_of_le H.out.head.lt HG1.out.size)
    go_wp2_with (at_builtin; refine (fun (h : True → _) => h trivial) ?_)
    intro _
    refine wpList_append_ch w1 rfl _ _ rfl L.wv L.cs rfl HR1.out _ _ _ rfl (by have := H.out.rest.many; omega) ?_
    intro v' w2 hr2 hg2 hv2
    have HR2 := hide hr2
    have HG2 := hide hg2
    have HV2 := hide hv2
    have h5 : Bk 55 w2 p (headC L d u) := (H.out.head.keep (HG1.out.block p H.out.head.lt (fun e => HNP.out (Option.some.inj e).symm))).keep ((hg2.block p (by simp; have := HP4.out; omega) (fun e => by
      obtain ⟨cs', hb'⟩ := ownBk HR1.out e.symm
      exact (hb'.ne (H.out.head.keep (HG1.out.block p H.out.head.lt (fun e => HNP.out (Option.some.inj e).symm))) (by decide)) rfl)).trans (Below.heap_alloc _ _ _ HP4.out))
    obtain ⟨d4, g4⟩ := h5.cell 4 rfl
    obtain ⟨ao, nn, cp, rfl⟩ := rowShape hr2
    clear hr2 hg2 hv2 h5 c4 f4
    go_wp2
    go_end0
    obtain ⟨hd, hon⟩ := H.out.addWait HCH.out HOK.out HCO.out HG1.out HM1.out HR2.out HG2.out HV2.out
    rw [← gr_set F w w2 ⟨p, 4, none⟩ (.slice ao nn cp)] at hd
    exact ⟨rfl, _, hd, rfl, rfl, hon⟩
  | take n =>
    obtain ⟨b1, rfl, h1, f1⟩ := hc
    have HCH : Hid (ChV F w L.ps (.take n) (.func (.func 58) #[] #[ptr b1])) := hide ⟨b1, rfl, h1, f1⟩
    have HK := hide (takeC_any HCO.out w h1 H.out.rest.now)
    go_enter Try.func34, Try.ntmps34
    go_wp2_with fail
    refine HK.out.mono ?_
    rintro e w1 ⟨rfl, hm1, hg1⟩
    have HM1 := hide hm1
    have HG1 := hide hg1
    have h4 := H.out.head.keep (hg1.block p H.out.head.lt (fun e => HNP.out (Option.some.inj e).symm))
    obtain ⟨c4, f4⟩ := h4.cell 4 rfl
    have HR1 : Hid (w1.ownsRow 0 73 1 L.wv L.cs.length L.cs) := hide (ownsRow_keep H.out.rest.row fun g hg => hg1.block g (World.ownsRow.lt H.out.rest.row g hg).2 (fun e => HWN.out g hg (Option.some.inj e)))
    clear hm1 hg1 h4
    have HP4 : Hid (p < w1.heap.size) := hide (Nat.lt_of_lt_of_le H.out.head.lt HG1.out.size)
    go_wp2_with (at_builtin; refine (fun (h : True → _) => h trivial) ?_)
    intro _
    refine wpList_append_ch w1 rfl _ _ rfl L.wv L.cs rfl HR1.out _ _ _ rfl (by have := H.out.rest.many; omega) ?_
    intro v' w2 hr2 hg2 hv2
    have HR2 := hide hr2
    have HG2 := hide hg2
    have HV2 := hide hv2
    have h5 : Bk 55 w2 p (headC L d u) := (H.out.head.keep (HG1.out.block p H.out.head.lt (fun e => HNP.out (Option.some.inj e).symm))).keep ((hg2.block p (by simp; have := HP4.out; omega) (fun e => by
      obtain ⟨cs', hb'⟩ := ownBk HR1.out e.symm
      exact (hb'.ne (H.out.head.keep (HG1.out.block p H.out.head.lt (fun e => HNP.out (Option.some.inj e).symm))) (by decide)) rfl)).trans (Below.heap_alloc _ _ _ HP4.out))
    obtain ⟨d4, g4⟩ := h5.cell 4 rfl
    obtain ⟨ao, nn, cp, rfl⟩ := rowShape hr2
    clear hr2 hg2 hv2 h5 c4 f4
    go_wp2
    go_end0
    obtain ⟨hd, hon⟩ := H.out.addWait HCH.out HOK.out HCO.out HG1.out HM1.out HR2.out HG2.out HV2.out
    rw [← gr_set F w w2 ⟨p, 4, none⟩ (.slice ao nn cp)] at hd
    exact ⟨rfl, _, hd, rfl, rfl, hon⟩

end Go.Proofs.Ytfhgjnfichgdiaa
