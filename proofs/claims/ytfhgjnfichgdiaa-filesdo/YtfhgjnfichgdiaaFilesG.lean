/- Contracts of the landed files: SyncDir, Names. -/
import Derived.Test.YtfhgjnfichgdiaaFilesF
import Derived.Test.YtfhgjnfichgdiaaOpenInts
import Derived.Sort.OwnSortedInts
namespace Go.Proofs.Ytfhgjnfichgdiaa
open Go.RowKit Go.Maps Go.Shelf

set_option maxRecDepth 100000 in
theorem sortI_any {B : Nat} {v : Value} {l : List Int} (w : World) (h : OwnI w B v l) (hl : l.length ≤ 10000000) :
    Calls Try.prog 31 #[v] w fun e w' => e = .returned (.tuple #[]) ∧ OwnI w' B v (l.mergeSort fun x y => decide (x ≤ y)) ∧ w.grownBy w' v.ownBlock := by
  have h0 := h
  have hg0 : w.grownBy w v.ownBlock := ⟨rfl, rfl, rfl, Nat.le_refl _, fun _ _ _ => rfl⟩
  rcases h.2 with ⟨rfl, hn⟩ | ⟨g, cap, cur, rfl, hb, hg, hnc, hcm, hcs, ht⟩
  · have e : l = [] := List.eq_nil_of_length_eq_zero hn
    subst e
    have hc := Any.slices_Sort_int_none layS none 0 w
    refine hc.mono ?_
    rintro e w' ⟨rfl, rfl⟩
    exact ⟨rfl, by simpa using h0, hg0⟩
  · by_cases e : l = []
    · subst e
      have hc := Any.slices_Sort_int_none layS (some ⟨g, 0, none⟩) cap w
      refine hc.mono ?_
      rintro e w' ⟨rfl, rfl⟩
      exact ⟨rfl, by simpa using h0, hg0⟩
    · have hH : Sort.Holds (Value.int .i64) w g 0 l.toArray := holds_of_blockI hg (by rw [Nat.mul_one] at ht; exact ht)
      have hc := Any.slices_Sort_int layS g 0 cap l w hH (Array.getElem?_eq_some_iff.1 hg).1 (by omega)
      refine hc.mono ?_
      rintro e w' ⟨rfl, n, os, rfl⟩
      refine ⟨rfl, ?_, grownBy_sortedI _⟩
      have ho := ownsRow_sortedI (n := n) (os := os) (ss := l) (ts := l.mergeSort fun x y => decide (x ≤ y)) (by simp) hb hg hnc hcm hcs
      unfold OwnI
      rw [show (l.mergeSort fun x y => decide (x ≤ y)).length = l.length by simp]
      exact ho

/-- Names that were met, as far as a map has been gone over. -/
structure Met (f : Int → Option Nat) (left : Lit → Bool) (l : List Int) : Prop where
  mem : ∀ p, I64 p → (p ∈ l ↔ (f p).isSome = true ∧ left (.int .i64 p) = false)
  nd : l.Nodup
  i : ∀ p ∈ l, I64 p

theorem Met.step {f : Int → Option Nat} {left : Lit → Bool} {l : List Int} (h : Met f left l) {x : Int} (hx : I64 x) (hl : left (.int .i64 x) = true) (hf : (f x).isSome = true) : Met f (fun z => left z && !z.sameKey (.int .i64 x)) (l ++ [x]) := by
  refine ⟨fun p hp => ?_, ?_, fun p hp => ?_⟩
  · rw [List.mem_append, h.mem p hp, List.mem_singleton]
    by_cases e : p = x
    · subst e
      have hs : (Lit.int .i64 p).sameKey (.int .i64 p) = true := WideAt.sameKey_self (by first | exact trivial | simp [WideAt.IsKeyLit])
      simp [hs, hf]
    · have hs : (Lit.int .i64 p).sameKey (.int .i64 x) = false := sameKey_ne (by intro h; injection h with _ h; exact e h)
      simp [hs, e]
  · rw [List.nodup_append]
    refine ⟨h.nd, by simp, fun a ha b hb => ?_⟩
    rw [List.mem_singleton.1 hb]
    rintro rfl
    have := ((h.mem a hx).1 ha).2
    rw [hl] at this
    cases this
  · rcases List.mem_append.1 hp with hp | hp
    · exact h.i p hp
    · rw [List.mem_singleton.1 hp]; exact hx

theorem Met.done {f : Int → Option Nat} {left : Lit → Bool} {l : List Int} (h : Met f left l) (hl : ∀ k, left k = false) {d : Dir} (hd : RisingD d) (hm : ∀ p ∈ d, I64 p.1) (hf : ∀ p, I64 p → (f p).isSome = (look d p).isSome) : (l.mergeSort fun x y => decide (x ≤ y)) = d.map Prod.fst := by
  have hs : (l.mergeSort fun x y => decide (x ≤ y)).Pairwise (fun a b => decide (a ≤ b) = true) := List.pairwise_mergeSort (fun a b c h1 h2 => by simp only [decide_eq_true_eq] at *; omega) (fun a b => by simp only [Bool.or_eq_true, decide_eq_true_eq]; omega) l
  have hp := List.mergeSort_perm l fun x y => decide (x ≤ y)
  have hnd : (l.mergeSort fun x y => decide (x ≤ y)).Nodup := hp.nodup_iff.2 h.nd
  refine eq_of_rising ?_ (rising_names hd) fun x => ?_
  · refine (hs.and hnd).imp fun {a b} hab => ?_
    have h1 := of_decide_eq_true hab.1
    have h2 := hab.2
    omega
  · rw [hp.mem_iff, List.mem_map]
    constructor
    · intro hx
      have h1 := ((h.mem x (h.i x hx)).1 hx).1
      rw [hf x (h.i x hx)] at h1
      obtain ⟨y, hy⟩ := Option.isSome_iff_exists.1 h1
      exact ⟨(x, y), (look_mem hd x y).1 hy, rfl⟩
    · rintro ⟨p, hpd, rfl⟩
      have hi := hm p hpd
      have h1 : look d p.1 = some p.2 := (look_mem hd p.1 p.2).2 hpd
      exact (h.mem p.1 hi).2 ⟨by rw [hf p.1 hi, h1]; rfl, hl _⟩

theorem size_le_of_owns {w : World} {b n : Nat} {D : DataW Unit} (h : w.ownsMap Try.prog 3 ptrElem b n D) : Maps.size D ≤ n := by
  obtain ⟨es, clock, hb, F, hs, rfl⟩ := h
  rw [size_eq, length_sorted]
  simpa using hs

theorem ranges_keep {w w' : World} {b r n cnt : Nat} {D : DataW Unit} {left : Lit → Bool} (h : w.ranges Try.prog 3 ptrElem b r n D left cnt) (hb : w'.heap[b]? = w.heap[b]?) (hr : w'.heap[r]? = w.heap[r]?) : w'.ranges Try.prog 3 ptrElem b r n D left cnt := by
  obtain ⟨es, clock, since, seen, c0, h1, F, hs, hD, h2, rest⟩ := h
  exact ⟨es, clock, since, seen, c0, hb.trans h1, F, hs, hD, hr.trans h2, rest⟩

set_option maxRecDepth 100000 in
set_option maxHeartbeats 2000000 in
theorem names_any {F : Nat → Prop} {p : Nat} {L : Lay} {d : Dk} {u : Int} {N : Nat} (w : World) (h : DiskL F w p L d u N) (hok : OkD d) (hN : N ≤ 1000000) :
    Calls Try.prog 10 #[ptr p] w fun e w' => ∃ v, e = .returned v ∧ OwnI w' w.heap.size v ((dirD d).map Prod.fst) ∧ Below w.heap.size w w' := by
  obtain ⟨⟨-, -, c2, -, -, -⟩, -⟩ := h.cells
  obtain ⟨D, hown, hrd⟩ := h.rest.now
  have HOW := hide hown
  have HSZ : Hid (Maps.size D ≤ N) := hide (size_le_of_owns hown)
  have HLT : Hid (L.now < w.heap.size) := hide h.rest.now.lt
  have HRD : Hid (∀ q, I64 q → Maps.has D (.int .i64 q) = (look (dirD d) q).isSome) := hide (fun q hq => by rw [hrd.has hq]; cases look (dirD d) q <;> rfl)
  have HDN : Hid (∀ left l, Met (look (dirD d)) left l → (∀ k, left k = false) → (l.mergeSort fun x y => decide (x ≤ y)) = (dirD d).map Prod.fst) := hide (fun left l hm hl => hm.done hl hok.dir.rise (fun p hp => mayF_i64 (hok.dir.may p hp).1) (fun _ _ => rfl))
  clear h hown hrd hok
  go_enter Try.func10, Try.ntmps10
  go_wp2_with (first
    | (at_range; refine wpList_range_own _ rfl _ 51 rfl 3 67 dirKeys Try.underlying51 ptrElem L.now N D rfl HOW.out ?_; intro w0 hrg0 hg0 hs0)
    | go_in)
  go_frame
  go_loopw [3] (fun v wr => ∃ (left : Lit → Bool) (cnt : Nat) (l : List Int), Hid (wr.ranges Try.prog 3 ptrElem L.now w.heap.size N D left cnt) ∧ cnt + l.length ≤ Maps.size D ∧ Hid (OwnI wr (w.heap.size + 1) v l) ∧ Hid (Met (look (dirD d)) left l) ∧ Hid (Below w.heap.size w wr ∧ w.heap.size + 1 ≤ wr.heap.size))
    (fun _ wr => wr.rangeLeft L.now w.heap.size)
  case atStart =>
    refine ⟨_, _, [], hide hrg0, by simp, hide (OwnI.nil _ _), hide ⟨fun q hq => ?_, List.nodup_nil, by simp⟩, hide ⟨⟨hg0.os, hg0.tape, hg0.output, hg0.size, fun k hk => hg0.block k hk (by simp)⟩, by omega⟩⟩
    rw [HRD.out q hq]
    cases look (dirD d) q <;> simp
  case round =>
    obtain ⟨left, cnt, l, HRG, hcl, HO, HM, HB⟩ := hrel
    go_wp2_with (first
      | (at_next; refine wpList_next_ranges _ rfl _ rfl 3 dirKeys ptrElem (Value.int .i64) (fun b : Nat => ptr b) (fun key kl hk => by obtain ⟨x, rfl, _⟩ := Maps.keyOf_int_inv Try.underlying3 hk; exact ⟨x, rfl⟩) (fun v y hv => by obtain ⟨c, rfl, _⟩ := ptrElem_inv hv; exact ⟨c, rfl⟩) L.now w.heap.size N _ _ _ rfl HRG.out ?_ ?_)
      | go_in)
    · intro hc0 hl0
      have HL0 := hide hl0
      have hll : l.length ≤ 10000000 := by have := HSZ.out; omega
      have HS := hide (sortI_any _ HO.out hll)
      clear hc0 hl0
      go_wp2_with fail
      refine HS.out.mono ?_
      rintro e W1 ⟨rfl, ho1, hg1⟩
      have HBW : Hid (Below w.heap.size w W1) := hide (HB.out.1.grown hg1 HB.out.1.size (fun k hk => by have := (World.ownsRow.lt HO.out k hk).1; omega))
      have HO1 := hide ho1
      clear ho1 hg1
      go_wp2
      go_ret
      refine ⟨_, rfl, ?_, HBW.out⟩
      rw [← HDN.out _ _ HM.out HL0.out]
      exact HO1.out.mono (by omega)
    · intro x c kl yd yp w1 cnt1 hkey hlx hv hat hrg1 hlt hg1 hs1 hen
      obtain ⟨x', ex, rfl, hwx⟩ := Maps.keyOf_int_inv Try.underlying3 hkey
      cases ex
      have HI := hide (i64_of_wf hwx)
      have HF : Hid ((look (dirD d) x).isSome = true) := hide (by rw [← HRD.out x HI.out]; exact has_true_of_atKey hat)
      have HM1 := hide (HM.out.step HI.out hlx HF.out)
      have HRG1 := hide hrg1
      have HO1 : Hid (OwnI w1 (w.heap.size + 1) _ l) := hide (World.ownsRow.kept HO.out hg1 (.inr (fun e => by have := (World.ownsRow.lt HO.out _ e).1; omega)))
      have HB1 : Hid (Below w.heap.size w w1 ∧ w.heap.size + 1 ≤ w1.heap.size) := hide ⟨HB.out.1.grown hg1 HB.out.1.size (fun k hk => by have := Option.some.inj hk; omega), by have := HB.out.2; omega⟩
      have HLTC := hide hlt
      have hlim : l.length ≤ 1000000 ∧ cnt1 + (l ++ [x]).length ≤ Maps.size D := by
        have := HSZ.out
        simp only [List.length_append, List.length_singleton]
        omega
      have HLM := hide hlim
      clear hkey hlx hv hat hrg1 hlt hg1 hs1 hwx hlim hcl
      go_wp2_with (at_builtin; refine (fun (h : True → _) => h trivial) ?_)
      intro _
      refine wpList_append_int w1 rfl _ _ rfl (w.heap.size + 1) u3 l rfl HO1.out x rfl HLM.out.1 HB1.out.2 ?_
      intro v2 w2 ho2 hb2
      have HO2 := hide ho2
      have HRG2 := hide (ranges_keep HRG1.out (hb2.block _ (by have := HLT.out; omega)) (hb2.block _ (by omega)))
      have HB2 : Hid (Below w.heap.size w w2 ∧ w.heap.size + 1 ≤ w2.heap.size) := hide ⟨HB1.out.1.trans (hb2.mono (by omega)), by have := HB1.out.2; have := hb2.size; omega⟩
      clear ho2 hb2
      go_wp2
      go_roundw
      case rel => exact ⟨_, cnt1, l ++ [x], HRG2, HLM.out.2, HO2, HM1, HB2⟩
      case measure => rw [HRG2.out.left_eq, HRG.out.left_eq]; exact HLTC.out

theorem DiskL.synced {F : Nat → Prop} {w w1 : World} {p : Nat} {L : Lay} {d : Dk} {u : Int} {N : Nat} (h : DiskL F w p L d u N) (hb : Below w.heap.size w w1) (hs : w1.heap.size = w.heap.size + 1) (hm : MapP w1 w.heap.size N (fun n => (look (dirD d) n).map L.ps)) :
    DiskL (Gr F w w1) ((w1.setCell ⟨p, 3, none⟩ (.map (some w.heap.size))).setCell ⟨p, 4, none⟩ (.slice none 0 0)) p { L with kept := w.heap.size, wv := .slice none 0 0, cs := [] } { d with kept := dirD d, waits := [] } u N := by
  have h1 := h.more hb
  have h0 := h1.rest
  have hk : ∀ k, k ≠ p → ((w1.setCell ⟨p, 3, none⟩ (.map (some w.heap.size))).setCell ⟨p, 4, none⟩ (.slice none 0 0)).heap[k]? = w1.heap[k]? := fun k hne => by
    rw [Below.heap_setCell _ _ _ _ hne, Below.heap_setCell _ _ _ _ hne]
  have hr := h0.keep h1.head (fun k _ hne => hk k hne)
  refine ⟨(h1.head.set 3 _).set 4 _, ⟨hr.now, hm.keep (hk _ (by have := h.lt p h.fh; show w.heap.size ≠ p; omega)), World.ownsRow_nil _ _ _ _, rfl, (fun i c v hi => by simp at hi), hr.file, hr.psn, hr.vsn, ?_, hr.fn, .inr ⟨Nat.le_refl _, by show w.heap.size < _; omega⟩, (fun g hg => by cases hg), hr.fp, hr.fv⟩, h1.fh, fun k hk => ?_⟩
  · have := h.rest.now.lt
    show L.now ≠ w.heap.size
    omega
  · have := h1.lt k hk
    simpa using this

set_option maxRecDepth 100000 in
set_option maxHeartbeats 1000000 in
theorem syncDir_any {F : Nat → Prop} {p : Nat} {d : Dk} {N T : Nat} (w : World) (h : Dsk F w p d N T) :
    Calls Try.prog 16 #[ptr p] w fun e w' => DidF F w p (syncDirD d).1 (syncDirD d).2 (N + 2) T e w' := by
  have HD := hide h
  obtain ⟨L, h, hok, hbn, hrm, hpw⟩ := h
  have H := hide h
  have HOK := hide hok
  have HBN := hide hbn
  have HI := hide (And.intro hrm hpw)
  have HO := hide (on_any w h)
  obtain ⟨⟨-, -, c2, c3, c4, -⟩, -, f3, f4, -⟩ := h.cells
  have HC := hide (cloneM_any h.rest.now)
  clear hok hbn hrm hpw
  unfold syncDirD
  by_cases h0 : d.power = 0
  · rw [if_pos h0]
    rw [h0] at HO
    clear h0 h
    go_enter Try.func16, Try.ntmps16
    go_wp2_with fail
    refine HO.out.mono ?_
    rintro e w' ⟨rfl, rfl⟩
    go_wp2
    go_ret
    exact DidF.same HD.out (by omega) (Nat.le_refl _)
  rw [if_neg h0]
  have e0 : (d.power != 0) = true := by simpa using h0
  rw [e0] at HO
  clear h0 e0 h
  go_enter Try.func16, Try.ntmps16
  go_wp2_with fail
  refine HO.out.mono ?_
  rintro e w' ⟨rfl, rfl⟩
  go_wp2_with fail
  refine HC.out.mono ?_
  rintro e W1 ⟨rfl, hm1, hs1, hb1⟩
  have HD1 := hide (H.out.synced hb1 hs1 hm1)
  have HX := hide (H.out.more hb1)
  have HB1 := hide hb1
  obtain ⟨⟨-, -, -, k3, k4, -⟩, -, j3, j4, -⟩ := HX.out.cells
  obtain ⟨va, vn, vc, hvs⟩ := rowShape HX.out.rest.row
  rw [hvs] at k4
  have HON1 : Hid (Only F w' ((W1.setCell ⟨p, 3, none⟩ (.map (some w'.heap.size))).setCell ⟨p, 4, none⟩ (.slice none 0 0))) := hide (((Only.ofBelow hb1).setCell 3 (fun _ => H.out.fh) _).setCell 4 (fun _ => H.out.fh) _)
  obtain ⟨W2, hW2⟩ : ∃ W2, W2 = (W1.setCell ⟨p, 3, none⟩ (.map (some w'.heap.size))).setCell ⟨p, 4, none⟩ (.slice none 0 0) := ⟨_, rfl⟩
  rw [← hW2] at HD1 HON1
  have HW2 := hide hW2
  have HS1 := hide hs1
  clear c2 c3 c4 f3 f4 hm1 hs1 hb1 hvs hW2
  go_upto_region 5 with fail
  rw [← HW2.out]
  clear HW2 k3 k4 j3 j4
  go_wp2_with fail
  refine (done_any W2 HD1.out HI.out.2).mono ?_
  rintro e W4 ⟨rfl, hd4, hon4⟩
  go_wp2
  go_ret
  refine ⟨rfl, _, ⟨_, hd4.mono (by omega), okD_kept (fs := d.files) HOK.out.dir HOK.out.keep, ⟨by have := HBN.out.files; show d.files.length ≤ _; omega, ?_, HBN.out.bytes⟩, HI.out.1, tick_i64 HI.out.2⟩, HON1.out.trans hon4 (fun k hk hf => ?_), fun k hk => ?_⟩
  · have h1 := HBN.out.names
    have h2 := dirK_len d d.waits.length
    rw [dirK_all] at h2
    show (dirD d).length + 0 ≤ _
    omega
  · rcases hf with hf | hf
    · exact hf
    · omega
  · rcases hk with hk | hk
    · exact .inl hk
    · exact .inr hk.1

end Go.Proofs.Ytfhgjnfichgdiaa
