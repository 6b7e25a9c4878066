/- Contracts of ferrymanref11: Dir, find, Used. -/
import Derived.Test.YtfhgjnfichgdiaaRef11E
namespace Go.Proofs.Ytfhgjnfichgdiaa
open Go.RowKit

theorem look_skip (n : Int) : ∀ (l : Dir) (k : Nat), (∀ e ∈ l.take k, e.1 ≠ n) → look l n = look (l.drop k) n
  | l, 0, _ => by rw [List.drop_zero]
  | [], _ + 1, _ => by rw [List.drop_nil]
  | p :: l, k + 1, h => by
    rw [look, if_neg (h p (by simp)), List.drop_succ_cons]
    exact look_skip n l k fun e he => h e (by rw [List.take_succ_cons]; exact List.mem_cons_of_mem _ he)

theorem look_hit {n : Int} {l : Dir} {k : Nat} (hk : k < l.length) (h : ∀ e ∈ l.take k, e.1 ≠ n) (e : l[k].1 = n) : look l n = some l[k].2 := by
  rw [look_skip n l k h, List.drop_eq_getElem_cons hk, look, if_pos e]

theorem look_past {n : Int} {l : Dir} (h : ∀ e ∈ l.take l.length, e.1 ≠ n) : look l n = none := by
  rw [look_skip n l _ h, List.drop_length]
  rfl

theorem RdN.at_ {w : World} {v : Value} {l : Dir} (h : RdN w v l) {k : Nat} (hk : k < l.length) : ∃ b off cap, v = .slice (some ⟨b, off, none⟩) l.length cap ∧ NmAt w b (off + k * 2) l[k] := by
  obtain ⟨ao, cap, hv, _, _, _, _, h6⟩ := h
  rcases h6 with h6 | ⟨b, off, rfl, h7⟩
  · rw [h6] at hk
    simp at hk
  · refine ⟨b, off, cap, hv, ?_⟩
    have h8 := h7 k hk
    have e : l.getD k ((0 : Int), (0 : Nat)) = l[k] := by simp [List.getD, hk]
    rw [e] at h8
    exact h8

theorem RefL.fileCell {F : Nat → Prop} {w : World} {p : Nat} {L : RLay} {d : Dk} (h : RefL F w p L d) {f : Nat} (hf : f < d.files.length) :
    ∃ g off cap, L.fv = .slice (some ⟨g, off, none⟩) d.files.length cap ∧ w.cell? ⟨g, off + f, none⟩ = some (ptr (L.ps f)) := by
  rcases h.files.2 with ⟨hv, hn⟩ | ⟨g, cap, cur, hv, hb, hg, hnc, hcm, hcs, htake⟩
  · omega
  · refine ⟨g, 0, cap, hv, ?_⟩
    have := World.ownsRow.cells h.files (g := g) (by rw [hv]; rfl) f _ (ptrCells_get L.ps _ f hf)
    rw [Addr.add_lit] at this
    exact this

set_option maxRecDepth 100000 in
theorem refAll_any {F : Nat → Prop} {p : Nat} {L : RLay} {d : Dk} {N T : Nat} (w : World) (h : RefL F w p L d) (hok : OkD d) (hbn : Bnd d N T) (hN : N ≤ 900000) :
    Calls Try.prog 11 #[ptr p] w fun e w' => ∃ v, e = .returned v ∧ GotN w w' L.kv v (dirD d) := by
  have HC := hide (refDir_any w h hok hbn hN d.waits.length (Nat.le_refl _))
  rw [dirK_all] at HC
  obtain ⟨⟨-, -, -, c3, -⟩, -⟩ := h.cells
  obtain ⟨ao, cap, hv⟩ : ∃ ao cap, L.wv = .slice ao d.waits.length cap := by
    rcases h.waits.2 with ⟨hv, hn⟩ | ⟨g, cap, cur, hv, _⟩
    · exact ⟨none, 0, by rw [hv, hn]⟩
    · exact ⟨_, _, hv⟩
  rw [hv] at c3
  clear h hok hbn hv
  go_enter Try.func11, Try.ntmps11
  go_wp2_with fail
  refine HC.out.mono ?_
  rintro e w' ⟨v, rfl, hg⟩
  have HG := hide hg
  clear hg
  go_wp2
  go_ret
  exact ⟨_, rfl, HG.out⟩

set_option maxRecDepth 100000 in
set_option maxHeartbeats 1000000 in
theorem refFind_any {F : Nat → Prop} {p : Nat} {L : RLay} {d : Dk} {N T : Nat} (n : Int) (w : World) (h : RefL F w p L d) (hok : OkD d) (hbn : Bnd d N T) (hN : N ≤ 900000) :
    Calls Try.prog 43 #[ptr p, .int .i64 n] w fun e w' => e = .returned (.int .i64 (fNum (look (dirD d) n))) ∧ Below w.heap.size w w' := by
  have HC := hide (refAll_any w h hok hbn hN)
  obtain ⟨l, hl⟩ : ∃ l, l = dirD d := ⟨_, rfl⟩
  have hlen : l.length ≤ 900000 := by have := dirK_len d d.waits.length; rw [dirK_all] at this; have := hbn.names; rw [hl]; omega
  have HNM : Hid (∀ e ∈ l, NmI e) := hide (by rw [hl]; exact hok.dir.nmi (by have := hbn.files; omega))
  rw [← hl] at HC ⊢
  clear hl h hok hbn
  go_enter Try.func43, Try.ntmps43
  go_wp2_with fail
  refine HC.out.mono ?_
  rintro e w1 ⟨v, rfl, hg⟩
  have HB := hide hg.2.2
  have HRD := hide (hg.1.rd HNM.out)
  obtain ⟨av, cv, hv⟩ := hg.1.shape
  subst hv
  clear hg
  go_wp2
  go_loopw [6] (fun vi wr => ∃ k : Nat, vi = .int .i64 (k : Int) ∧ k ≤ l.length ∧ Hid (∀ e ∈ l.take k, e.1 ≠ n) ∧ wr = w1) (fun vi _ => l.length - (intOf vi).toNat)
  case atStart => exact ⟨0, rfl, Nat.zero_le _, hide (fun e he => by simp at he), rfl⟩
  case round =>
    obtain ⟨k, rfl, hkl, HS, rfl⟩ := hrel
    by_cases hlt : k < l.length
    · obtain ⟨b, off, cap, hav, hat⟩ := HRD.out.at_ hlt
      simp only [Value.slice.injEq, true_and] at hav
      obtain ⟨rfl, rfl⟩ := hav
      obtain ⟨x, hx⟩ : ∃ x, x = l[k] := ⟨_, rfl⟩
      have HH : Hid (x.1 = n → look l n = some x.2) := hide (by rw [hx]; exact look_hit hlt HS.out)
      have HT : Hid (l.take (k + 1) = l.take k ++ [x]) := hide (by rw [hx]; exact List.take_succ_eq_append_getElem hlt)
      have HLT := hide hlt
      rw [← hx] at hat
      obtain ⟨c0, c1⟩ := hat
      clear hx
      by_cases hne : x.1 = n
      · have hb0 : (x.1 == n) = true := by simpa using hne
        have HL := hide (HH.out hne)
        clear hne HH
        go_wp2
        go_ret
        refine ⟨?_, HB.out⟩
        rw [HL.out]
        rfl
      · have hb0 : (x.1 == n) = false := by simpa using hne
        have HNE := hide hne
        clear hne HH
        go_wp2
        go_roundw
        case rel => exact ⟨k + 1, by go_num, by have := HLT.out; omega, hide (by
          rw [HT.out]
          intro e he
          rcases List.mem_append.1 he with he | he
          · exact HS.out e he
          · rw [List.mem_singleton.1 he]; exact HNE.out), trivial⟩
        case measure => have := HLT.out; simp [intOf]; omega
    · obtain rfl : k = l.length := by omega
      have HL := hide (look_past HS.out)
      go_wp2
      go_ret
      refine ⟨?_, HB.out⟩
      rw [HL.out]
      rfl

set_option maxRecDepth 100000 in
set_option maxHeartbeats 1000000 in
theorem refUsed_any {F : Nat → Prop} {p : Nat} {L : RLay} {d : Dk} {N T : Nat} (w : World) (h : RefL F w p L d) (hok : OkD d) (hbn : Bnd d N T) (hN : N ≤ 900000) (hT : T ≤ 1000000000) :
    Calls Try.prog 13 #[ptr p] w fun e w' => e = .returned (.int .i64 (usedD d : Int)) ∧ Below w.heap.size w w' := by
  have HC := hide (refAll_any w h hok hbn hN)
  have H := hide h
  obtain ⟨l, hl⟩ : ∃ l, l = dirD d := ⟨_, rfl⟩
  have hlen : l.length ≤ 900000 := by have := dirK_len d d.waits.length; rw [dirK_all] at this; have := hbn.names; rw [hl]; omega
  have HNM : Hid (∀ e ∈ l, NmI e) := hide (by rw [hl]; exact hok.dir.nmi (by have := hbn.files; omega))
  have HMF : Hid (∀ e ∈ l, e.2 < d.files.length) := hide (by rw [hl]; exact fun e he => (hok.dir.may e he).2)
  have HBY : Hid (∀ e ∈ l, (fl d.files e.2).b.length ≤ 1000000000) := hide (fun e he => by have := hbn.bytes _ (mem_fl (HMF.out e he)); omega)
  have HSM : Hid (∀ k, sumB d.files (l.take k) ≤ 900000 * 1000000000) := hide (fun k => by
    have h1 := sumB_le (fs := d.files) (T := 1000000000) (fun x hx => by have := hbn.bytes x hx; omega) (l.take k) (fun q hq => HMF.out q (List.mem_of_mem_take hq))
    have h2 : (l.take k).length ≤ 900000 := by rw [List.length_take]; omega
    exact Nat.le_trans h1 (Nat.mul_le_mul_right _ h2))
  have HU : Hid (usedD d = sumB d.files l) := hide (by rw [hl]; rfl)
  have hfn : d.files.length ≤ 900000 := by have := hbn.files; omega
  rw [← hl] at HC
  clear hl h hok hbn
  go_enter Try.func13, Try.ntmps13
  go_wp2_with fail
  refine HC.out.mono ?_
  rintro e w1 ⟨v, rfl, hg⟩
  have HB := hide hg.2.2
  have HRD := hide (hg.1.rd HNM.out)
  have H1 := hide (H.out.below HB.out)
  obtain ⟨av, cv, hv⟩ := hg.1.shape
  subst hv
  clear hg
  go_wp2
  go_loopw [4, 5] (fun vn vi wr => ∃ k : Nat, vi = .int .i64 (k : Int) ∧ k ≤ l.length ∧ vn = .int .i64 (sumB d.files (l.take k) : Int) ∧ Hid (Below w1.heap.size w1 wr)) (fun _ vi _ => l.length - (intOf vi).toNat)
  case atStart => exact ⟨0, rfl, Nat.zero_le _, rfl, hide (Below.refl _ _)⟩
  case round =>
    obtain ⟨k, rfl, hkl, rfl, HBW⟩ := hrel
    by_cases hlt : k < l.length
    · obtain ⟨b, off, cap, hav, hat⟩ := (HRD.out.below HBW.out (Nat.le_refl _)).at_ hlt
      simp only [Value.slice.injEq, true_and] at hav
      obtain ⟨rfl, rfl⟩ := hav
      have hmem : l[k] ∈ l := List.getElem_mem hlt
      have HT : Hid (sumB d.files (l.take (k + 1)) = sumB d.files (l.take k) + (fl d.files l[k].2).b.length) := hide (by
        rw [List.take_succ_eq_append_getElem hlt, sumB_append, sumB_cons, sumB_nil, Nat.add_zero])
      have hff := HMF.out _ hmem
      have hbb := HBY.out _ hmem
      have hss := HSM.out k
      obtain ⟨x, hx⟩ : ∃ x, x = l[k] := ⟨_, rfl⟩
      rw [← hx] at hff hbb HT hat
      clear hx hmem
      obtain ⟨xn, f⟩ := x
      dsimp only at hff hbb HT
      obtain ⟨c0, c1⟩ := hat
      dsimp only at c0 c1
      have HR := hide (H1.out.below HBW.out)
      obtain ⟨⟨-, g1, -⟩, -⟩ := HR.out.cells
      obtain ⟨fg, fo, fc, hfv, hfc⟩ := HR.out.fileCell hff
      rw [hfv] at g1
      have hxf := HR.out.file f hff
      obtain ⟨va, vc, hvs⟩ := hxf.own.shape
      have g0 : wr.cell? ⟨L.ps f, 0, none⟩ = some (.slice va (fl d.files f).b.length vc) := by rw [← hvs]; exact (hxf.box.cell 0 rfl).1
      obtain ⟨m, hm⟩ : ∃ m, m = (fl d.files f).b.length := ⟨_, rfl⟩
      rw [← hm] at g0 HT hbb
      obtain ⟨S, hS⟩ : ∃ S, S = sumB d.files (l.take k) := ⟨_, rfl⟩
      rw [← hS] at HT hss ⊢
      have HLT := hide hlt
      clear hxf hvs hm hS hfv c0
      go_upto_region 6 with fail
      go_quiet (fail)
      go_wp2
      go_roundw
      case rel => exact ⟨k + 1, by go_num, by have := HLT.out; omega, by rw [HT.out]; go_num, hide (below_drewN HBW.out _)⟩
      case measure => have := HLT.out; simp [intOf]; omega
    · obtain rfl : k = l.length := by omega
      rw [List.take_length, ← HU.out]
      go_wp2
      go_ret
      exact ⟨rfl, HB.out.trans (HBW.out.mono HB.out.size)⟩

end Go.Proofs.Ytfhgjnfichgdiaa
