/- Contracts of the landed files: what a loss of power makes of the names. -/
import Derived.Test.YtfhgjnfichgdiaaFilesTight
import Derived.Deep.RegionHeld
namespace Go.Proofs.Ytfhgjnfichgdiaa
open Go.RowKit

theorem run_cut0 {t : TypeId} (ht : Try.prog.underlying t = some (.slice (Try.prog.elem t))) (hsz : ∀ w, (sizeOf (Try.prog.elem t)).run Try.prog w = .ok 1 w) (w : World) (ao : Option Addr) (n cap : Nat) (j : Int) (hao : (ao = none ∧ cap = 0) ∨ ∃ g, ao = some ⟨g, 0, none⟩) (h0 : 0 ≤ j) (h1 : j ≤ cap) :
    (Instr.sliceAt t (.slice ao n cap) none (some (.int .i64 j)) none).run Try.prog w = .ok (.slice ao j.toNat cap) w := by
  rw [run_sliceAt_slice w t _ _ _ _ ht, run_slice_h w t ao n cap ht .i64 j h0 h1, hsz]
  show Result.ok (sliced ao 0 j.toNat cap 1) w = _
  unfold sliced
  rcases hao with ⟨rfl, rfl⟩ | ⟨g, rfl⟩
  · simp
  · simp [Addr.add]

theorem elem_chs : Try.prog.elem 53 = 73 := by kernel_rfl

theorem under_chs : Try.prog.underlying 53 = some (.slice (Try.prog.elem 53)) := by rw [elem_chs]; exact Try.underlying53

theorem size_ch (w : World) : (sizeOf (Try.prog.elem 53)).run Try.prog w = .ok 1 w := by
  obtain ⟨i0, hi, _, hz1, _⟩ := info_parts info_ch
  rw [elem_chs]
  simp [sizeOf, typeInfo, hi, hz1]

theorem rowHead {w : World} {n s : Nat} {t : TypeId} {v : Value} {xs : List Value} (h : w.ownsRow 0 t s v n xs) : ∃ ao cap, v = .slice ao n cap ∧ n ≤ cap ∧ ((ao = none ∧ cap = 0) ∨ ∃ g, ao = some ⟨g, 0, none⟩) := by
  rcases h.2 with ⟨hv, hn⟩ | ⟨g, cap, cur, hv, _, _, hc, _⟩
  · exact ⟨none, 0, by rw [hv, hn], by omega, .inl ⟨rfl, rfl⟩⟩
  · exact ⟨some ⟨g, 0, none⟩, cap, hv, hc, .inr ⟨g, rfl⟩⟩

theorem _root_.Go.World.grownBy.trans2 {a b c : World} {r : Nat} (h : a.grownBy b (some r)) (k : b.grownBy c (some r)) : a.grownBy c (some r) := grownBy_two h k

/-- What a loss of power leaves of the names. -/
theorem DiskL.lost {F : Nat → Prop} {w w' : World} {p : Nat} {L : Lay} {d : Dk} {u : Int} {N : Nat} {l : Dir} (h : DiskL F w p L d u N) (hs : w.heap.size ≤ w'.heap.size)
    (hk : ∀ k, F k → k ≠ p → k ≠ L.now → k ≠ L.kept → w'.heap[k]? = w.heap[k]?) (hh : Bk 55 w' p (headC { L with wv := .slice none 0 0, cs := [] } d u))
    (hm1 : MapP w' L.now N (fun n => (look l n).map L.ps)) (hm2 : MapP w' L.kept N (fun n => (look l n).map L.ps)) :
    DiskL F w' p { L with wv := .slice none 0 0, cs := [] } { d with kept := l, waits := [] } u N := by
  have h0 := h.rest
  have hb : ∀ {t : TypeId} {k : Nat} {cs : Array Value}, Bk t w k cs → F k → t ≠ 55 → w'.heap[k]? = w.heap[k]? := fun hb hf ht => hk _ hf (hb.ne h.head ht) (hb.neMap h0.now) (hb.neMap h0.kept)
  refine ⟨hh, ⟨hm1, hm2, World.ownsRow_nil _ _ _ _, rfl, (fun i c v hi => by simp at hi), fun i hi => ?_, h0.psn, h0.vsn, h0.nk, h0.fn, h0.fk, (fun g hg => by cases hg), h0.fp, h0.fv⟩, h.fh, fun k hf => by have := h.lt k hf; omega⟩
  refine (h0.file i hi).keep (hb (h0.file i hi).box (h0.fp i hi) (by decide)) fun g hg => ?_
  obtain ⟨cs', hb'⟩ := ownBk (h0.file i hi).own hg
  exact hb hb' (h0.fv i hi g hg) (by decide)

set_option maxRecDepth 100000 in
set_option maxHeartbeats 2000000 in
theorem loseChanges_any {F : Nat → Prop} {p : Nat} {L : Lay} {d : Dk} {u : Int} {N T : Nat} (names : Int) (w : World) (h : DiskL F w p L d u N) (hok : OkD d) (hbn : Bnd d N T) (hN : N ≤ 1000000) :
    Calls Try.prog 38 #[ptr p, .int .i64 names] w fun e w' => e = .returned (.tuple #[]) ∧ DiskL F w' p { L with wv := .slice none 0 0, cs := [] } { d with kept := dirK d (shareN names d.waits.length), waits := [] } u N ∧ Only F w w' := by
  have H := hide h
  have HOK := hide hok
  have HBN := hide hbn
  have hW : d.waits.length ≤ N := by have := hbn.names; omega
  obtain ⟨K, hK⟩ : ∃ K, K = shareN names d.waits.length := ⟨_, rfl⟩
  have hKl : K ≤ d.waits.length := by rw [hK]; exact shareN_le _ _
  rw [← hK]
  have HSH : Hid (∀ q, Calls Try.prog 55 #[.int .i64 names, .int .i64 (d.waits.length : Int)] (w.drewN q) fun e w' => e = .returned (.int .i64 (K : Int)) ∧ w' = w.drewN q) := hide (fun q => by rw [hK]; exact share_any names d.waits.length (by omega) (w.drewN q))
  obtain ⟨⟨-, -, -, c3, c4, -⟩, -, -, f4, -⟩ := h.cells
  obtain ⟨ao, cap, hwv, hcap, hao⟩ := rowHead h.rest.row
  rw [h.rest.many] at hwv hcap
  rw [hwv] at c4
  have HWV := hide hwv
  have HCELL : Hid (∀ k, k < K → ∃ g c cv, ao = some ⟨g, 0, none⟩ ∧ d.waits[k]? = some c ∧ ChV F w L.ps c cv ∧ w.cell? ⟨g, k, none⟩ = some cv ∧ okCh d.files.length c ∧ dirK d (k + 1) = chD (dirK d k) c ∧ g ≠ L.kept) := hide (fun k hk => by
    have hk' : k < d.waits.length := by omega
    have hkc : k < L.cs.length := by rw [h.rest.many]; exact hk'
    rcases hao with ⟨_, hc0⟩ | ⟨g, rfl⟩
    · omega
    · have hob : L.wv.ownBlock = some g := by rw [hwv]; rfl
      refine ⟨g, d.waits[k], L.cs[k], rfl, List.getElem?_eq_getElem hk', h.rest.wait k _ _ (List.getElem?_eq_getElem hk') (List.getElem?_eq_getElem hkc), ?_, hok.chs _ (List.getElem_mem hk'), dirK_succ d hk', ?_⟩
      · have := World.ownsRow.cells h.rest.row hob k _ (List.getElem?_eq_getElem hkc)
        rw [Addr.add_lit, Nat.zero_add] at this
        exact this
      · obtain ⟨cs', hb'⟩ := ownBk h.rest.row hob
        exact hb'.neMap h.rest.kept)
  clear hok hbn hwv hao hK h
  go_enter Try.func38, Try.ntmps38
  go_wp2
  refine wp_region_quiet_lit (by kernel_rfl) (by kernel_rfl) ?_
  repeat (go_big_quiet_step ((go_at_call 55; exact Calls.quiet_of_same (HSH.out _))))
  refine wpQuiet_nil ?_
  rintro _ ⟨nq, rfl⟩
  have HW : Hid (DiskL F (w.drewN nq) p L d u N) := hide (H.out.drewN nq)
  have HCW : Hid (∀ k, k < K → ∃ g c cv, ao = some ⟨g, 0, none⟩ ∧ d.waits[k]? = some c ∧ ChV F (w.drewN nq) L.ps c cv ∧ (w.drewN nq).cell? ⟨g, k, none⟩ = some cv ∧ okCh d.files.length c ∧ dirK d (k + 1) = chD (dirK d k) c ∧ g ≠ L.kept) := hide (fun k hk => by
    obtain ⟨g, c, cv, h1, h2, h3, h4, h5, h6⟩ := HCELL.out k hk
    exact ⟨g, c, cv, h1, h2, h3.keep (fun _ hf => hf) (fun _ _ => rfl) (fun _ _ _ _ => rfl), h4, h5, h6⟩)
  have HON0 : Hid (Only F w (w.drewN nq)) := hide ((Only.refl _ _).drewN nq)
  obtain ⟨W, hWe⟩ : ∃ W, W = w.drewN nq := ⟨_, rfl⟩
  rw [← hWe] at HW HCW HON0 ⊢
  clear hWe HSH HCELL c3 c4 f4 H
  go_wp2
  go_loopw [19] (fun vi wr => ∃ k : Nat, vi = .int .i64 (k : Int) ∧ k ≤ K ∧ Hid (MapP wr L.kept (N + k) (fun n => (look (dirK d k) n).map L.ps)) ∧ Hid (W.grownBy wr (some L.kept))) (fun vi _ => K - (intOf vi).toNat)
  case atStart => exact ⟨0, rfl, Nat.zero_le _, hide (by rw [dirK_zero]; exact HW.out.rest.kept), hide ⟨rfl, rfl, rfl, Nat.le_refl _, fun _ _ _ => rfl⟩⟩
  case round =>
    obtain ⟨k, rfl, hkK, HMR, HGR⟩ := hrel
    have HX3 := hide (HW.out.head.keep (HGR.out.block p HW.out.head.lt (fun e => (HW.out.head.neMap HW.out.rest.kept) (Option.some.inj e))))
    by_cases hlt : k < K
    · obtain ⟨g, c, cv, hao, hc, hcw, hcell, hco, hdk, hgk⟩ := HCW.out k hlt
      have HDK : Hid (∀ n', look (dirK d (k + 1)) n' = chF (look (dirK d k)) c n') := hide (fun n' => by rw [hdk]; exact look_chD (HOK.out.dirs k).rise c (okCh_move hco) n')
      have hcw : ChV F wr L.ps c cv := hcw.keep (fun _ hf => hf) (fun _ _ => rfl) (fun j cs hf hb => HGR.out.block j (HW.out.lt j hf) (fun e => by
        rcases hb with hb | hb <;> exact (hb.neMap HW.out.rest.kept) (Option.some.inj e)))
      have hcell : wr.cell? ⟨g, k, none⟩ = some cv := (HGR.out.cell hcell (fun e => hgk (Option.some.inj e)))
      obtain ⟨d3, -⟩ := HX3.out.cell 3 rfl
      subst hao
      clear hdk hgk hc
      cases c with
      | give n f =>
        obtain ⟨b1, b2, hcv, h1, h2, -, -⟩ := hcw
        have HK := hide (giveC_any (f := f) hco.1 wr h1 h2 HMR.out (by omega))
        rw [hcv] at hcell
        clear hcv h1 h2
        go_wp2_with fail
        refine HK.out.mono ?_
        rintro e w1 ⟨rfl, hm1, hg1⟩
        have HM1 : Hid (MapP w1 L.kept (N + (k + 1)) (fun n => (look (dirK d (k + 1)) n).map L.ps)) := hide (hm1.fun fun n' _ => by rw [HDK.out])
        have HG1 := hide (HGR.out.trans2 hg1)
        clear hm1 hg1
        go_wp2
        go_roundw
        case rel => exact ⟨k + 1, by go_num, by omega, HM1, HG1⟩
        case measure => simp [intOf]; omega
      | move n m f =>
        obtain ⟨b1, b2, b3, hcv, h1, h2, h3, -, -, -⟩ := hcw
        have HK := hide (moveC_any (f := f) hco.1 hco.2.1 wr h1 h2 h3 HMR.out (by omega))
        rw [hcv] at hcell
        clear hcv h1 h2 h3
        go_wp2_with fail
        refine HK.out.mono ?_
        rintro e w1 ⟨rfl, hm1, hg1⟩
        have HM1 : Hid (MapP w1 L.kept (N + (k + 1)) (fun n => (look (dirK d (k + 1)) n).map L.ps)) := hide (hm1.fun fun n' _ => by rw [HDK.out])
        have HG1 := hide (HGR.out.trans2 hg1)
        clear hm1 hg1
        go_wp2
        go_roundw
        case rel => exact ⟨k + 1, by go_num, by omega, HM1, HG1⟩
        case measure => simp [intOf]; omega
      | take n =>
        obtain ⟨b1, hcv, h1, -⟩ := hcw
        have HK := hide (takeC_any hco wr h1 HMR.out )
        rw [hcv] at hcell
        clear hcv h1
        go_wp2_with fail
        refine HK.out.mono ?_
        rintro e w1 ⟨rfl, hm1, hg1⟩
        have HM1 : Hid (MapP w1 L.kept (N + (k + 1)) (fun n => (look (dirK d (k + 1)) n).map L.ps)) := hide (hm1.fun fun n' _ => by rw [HDK.out])
        have HG1 := hide (HGR.out.trans2 hg1)
        clear hm1 hg1
        go_wp2
        go_roundw
        case rel => exact ⟨k + 1, by go_num, by omega, HM1, HG1⟩
        case measure => simp [intOf]; omega
    · have HKK : Hid (k = K) := hide (by omega)
      obtain ⟨va, vn, vc, hvs⟩ := rowShape HW.out.rest.row
      obtain ⟨d4, e4⟩ := HX3.out.cell 4 rfl
      obtain ⟨d2, -⟩ := HX3.out.cell 2 rfl
      have d4' : wr.cell? ⟨p, 4, none⟩ = some L.wv := d4
      rw [hvs] at d4'
      have HX4 := hide (HX3.out.set 4 (.slice none 0 0))
      have HMN : Hid (MapP (wr.setCell ⟨p, 4, none⟩ (.slice none 0 0)) L.now N (fun n => (look (dirD d) n).map L.ps)) := hide (HW.out.rest.now.keep ((Below.heap_setCell _ _ _ _ (HW.out.head.neMap HW.out.rest.now).symm).trans (HGR.out.block _ HW.out.rest.now.lt (fun e => HW.out.rest.nk (Option.some.inj e)))))
      have HMK : Hid (MapP (wr.setCell ⟨p, 4, none⟩ (.slice none 0 0)) L.kept (N + k) (fun n => (look (dirK d k) n).map L.ps)) := hide (HMR.out.keep (Below.heap_setCell _ _ _ _ (HW.out.head.neMap HW.out.rest.kept).symm))
      obtain ⟨W2, hW2⟩ : ∃ W2, W2 = wr.setCell ⟨p, 4, none⟩ (.slice none 0 0) := ⟨_, rfl⟩
      have HON2 : Hid (Only F w W2) := hide (by
        rw [hW2]
        exact (HON0.out.trans (Only.ofGrown HGR.out (fun j e _ => by obtain rfl := Option.some.inj e; exact HW.out.rest.fk)) (fun _ _ hf => hf)).setCell 4 (fun _ => HW.out.fh) _)
      have HSM : Hid (∀ j, F j → j ≠ p → j ≠ L.kept → W2.heap[j]? = W.heap[j]?) := hide (fun j hf h1 h2 => by
        rw [hW2, Below.heap_setCell _ _ _ _ h1]
        exact HGR.out.block j (HW.out.lt j hf) (fun e => h2 (Option.some.inj e)))
      have HSZ : Hid (W.heap.size ≤ W2.heap.size) := hide (by rw [hW2]; have := HGR.out.size; simpa using this)
      rw [← hW2] at HX4 HMN HMK
      have HW2 := hide hW2
      clear hvs d4 hW2 HMR HCW
      go_upto_region 6 with fail
      rw [← HW2.out]
      clear HW2 d4' e4 d2
      obtain ⟨d2, -⟩ := HX4.out.cell 2 rfl
      go_wp2_with (first | (with_reducible refine wpList_clear_P W2 rfl _ rfl L.now N _ rfl HMN.out ?_); intro W3 hm3 hg3)
      have HX5 := hide (HX4.out.keep (hg3.block p HX4.out.lt (fun e => (HW.out.head.neMap HW.out.rest.now) (Option.some.inj e))))
      have HMK3 := hide (HMK.out.keep (hg3.block _ HMK.out.lt (fun e => HW.out.rest.nk (Option.some.inj e).symm)))
      have HM3 := hide hm3
      have HG3 := hide hg3
      clear hm3 hg3 d2
      have d2 : W3.cell? ⟨p, 2, none⟩ = some (.map (some L.now)) := (HX5.out.cell 2 rfl).1
      have d3 : W3.cell? ⟨p, 3, none⟩ = some (.map (some L.kept)) := (HX5.out.cell 3 rfl).1
      have hkN : N + k ≤ 10000000 := by omega
      have HTI : Hid (∀ (X : World) (b n : Nat), MapP X b n (fun n => (look (dirK d k) n).map L.ps) → MapP X b N (fun n => (look (dirK d k) n).map L.ps)) := hide (fun _ _ _ hm => (hm.tight (l := (dirK d k).map Prod.fst) (fun q _ hq => by
        cases e : look (dirK d k) q with
        | none => rw [e] at hq; cases hq
        | some f => exact List.mem_map.2 ⟨(q, f), (look_mem (HOK.out.dirs k).rise q f).1 e, rfl⟩)).mono (by
          have h1 := dirK_len d k
          have h2 := HBN.out.names
          simp only [List.length_map]
          omega))
      have HCP := hide (copy_any (w := W3.drew) (HM3.out.keep rfl) (HMK3.out.keep rfl) HW.out.rest.nk hkN)
      go_upto_region 7 with fail
      go_region_with
        (first
          | (go_at_call 56; refine HCP.out.mono ?_; rintro e W4 ⟨rfl, hm4, hg4⟩; have HM4 := hide hm4; have HG4 := hide hg4; clear hm4 hg4))
      all_goals
        go_wp2
        go_end0
        have hs4 : W3.heap.size ≤ W4.heap.size := HG4.out.size
        have hk4 : ∀ j, j < W3.heap.size → j ≠ L.now → W4.heap[j]? = W3.heap[j]? := fun j hj hn => HG4.out.block j hj (fun e => hn (Option.some.inj e))
        have hs3 := HG3.out.size
        have hsz := HSZ.out
        have hp3 : p < W3.heap.size := by have := HW.out.head.lt; omega
        have hkp3 : L.kept < W3.heap.size := by have := HW.out.rest.kept.lt; omega
        rw [← HKK.out]
        refine ⟨rfl, HW.out.lost (l := dirK d k) (by omega) (fun j hf h1 h2 h3 => ?_) ?_ (HTI.out _ _ _ HM4.out) (HTI.out _ _ _ (HMK3.out.keep (hk4 _ hkp3 (Ne.symm HW.out.rest.nk)))), ?_⟩
        · have hj := HW.out.lt j hf
          rw [hk4 j (by omega) h2, HG3.out.block j (by omega) (fun e => h2 (Option.some.inj e))]
          exact HSM.out j hf h1 h3
        · exact HX5.out.keep (hk4 p hp3 (HW.out.head.neMap HW.out.rest.now))
        · have o3 : Only F W2 W3 := Only.ofGrown HG3.out (fun j e _ => by obtain rfl := Option.some.inj e; exact HW.out.rest.fn)
          have o4 : Only F W3 W4 := ⟨HG4.out.os, HG4.out.tape, HG4.out.output, hs4, fun j hj hn => hk4 j hj (fun e => hn (by rw [e]; exact HW.out.rest.fn))⟩
          exact (HON2.out.trans o3 (fun _ _ hf => hf)).trans o4 (fun _ _ hf => hf)

end Go.Proofs.Ytfhgjnfichgdiaa
