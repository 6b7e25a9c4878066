/- Contract of ferrymanref09: Note. -/
import Derived.Test.YtgpdbboieokldaaSnapBoxes
import Derived.Test.YtgpdbboieokldaaPack2
import Derived.Test.YtgpdbboieokldaaRef06A
import Derived.Deep.DeepCutAuto
import Derived.Deep.QuietTactic
import Derived.BigQuiet
namespace Go.Proofs.Ytgpdbboieokldaa
open Go.RowKit

theorem dropE_cons {t : List Ent} {k : Nat} (h : k < t.length) : t.drop k = t.getD k zeroE :: t.drop (k + 1) := by
  have e : t.getD k zeroE = t[k] := by simp [List.getD, h]
  rw [e, List.getElem_cons_drop]

theorem noteG_gt {e x : Ent} (h : e.proc < x.proc) (t O NL : List Ent) (hN : O ++ noteG e false (x :: t) = NL) : (O ++ [e]) ++ [x] ++ noteG e true t = NL := by
  rw [← hN, noteG, if_pos ⟨rfl, h⟩, if_neg (by omega), decide_eq_true h]
  simp

theorem noteG_eq {e x : Ent} {d : Bool} (hx : x.proc = e.proc) (t O NL : List Ent) (hN : O ++ noteG e d (x :: t) = NL) : O ++ noteG e d t = NL := by
  rw [← hN, noteG, if_pos hx, if_neg (by rintro ⟨h1, h2⟩; omega), decide_eq_false (by omega), Bool.or_false]
  simp

theorem noteG_ne {e x : Ent} {d : Bool} (h : ¬ e.proc < x.proc ∨ d = true) (hx : x.proc ≠ e.proc) (t O NL : List Ent) (hN : O ++ noteG e d (x :: t) = NL) : (O ++ [x]) ++ noteG e d t = NL := by
  have hd : (d || decide (e.proc < x.proc)) = d := by
    rcases h with h | h
    · rw [decide_eq_false h, Bool.or_false]
    · rw [h, Bool.true_or]
  have h1 : ¬ (d = false ∧ e.proc < x.proc) := by
    rintro ⟨h1, h2⟩
    rcases h with h | h
    · exact h h2
    · rw [h] at h1; cases h1
  rw [← hN, noteG, if_neg hx, if_neg h1, hd]
  simp

theorem below_up {B B' : Nat} {a w w' : World} (h : Below B a w) (h' : Below B' w w') (hB : B ≤ B') : Below B a w' := h.trans (h'.mono hB)

set_option maxRecDepth 100000 in
set_option maxHeartbeats 4000000 in
theorem refNoteN_any (v : Value) (t : List Ent) (r : Rec) (w : World) (hr : RdE w v t) (hlim : t.length ≤ 2000) :
    Calls Try.prog 34 #[v, recV r] w fun e w' => ∃ v', e = .returned v' ∧ OwnE w' w.heap.size v' (noteL t ⟨r.proc, r.seq, r.resp⟩) ∧ Below w.heap.size w w' := by
  obtain ⟨W0, hW0⟩ : ∃ W0, W0 = w.alloc (.cells (recC r) 64) := ⟨_, rfl⟩
  have HX0 : Hid (Br W0 w.heap.size (recC r)) := hide (by rw [hW0]; exact heap_alloc_new w _)
  have HB0 : Hid (Below w.heap.size w W0) := hide (by rw [hW0]; exact (Below.refl _ _).alloc (Nat.le_refl _) _)
  have HW0 := hide hW0
  obtain ⟨ta, tc, rfl, -, -, -, -, hta⟩ := hr
  have HTA := hide hta
  obtain ⟨NL, hNL⟩ : ∃ NL, NL = noteL t ⟨r.proc, r.seq, r.resp⟩ := ⟨_, rfl⟩
  have HLN : Hid (NL.length ≤ 2001) := hide (by have := noteL_len t ⟨r.proc, r.seq, r.resp⟩; rw [hNL]; omega)
  have HN0 : Hid ([] ++ noteG ⟨r.proc, r.seq, r.resp⟩ false (t.drop 0) = NL) := hide (by rw [hNL]; rfl)
  rw [← hNL]
  have hml : (t.length : Int) ≤ 2000 := by omega
  clear hW0 hta hNL
  obtain ⟨ri, rp, rs, ⟨oc, oa, ob⟩, rr⟩ := r
  unfold recV
  unfold recC at HX0 HW0
  dsimp only at *
  go_enter Try.func34, Try.ntmps34
  go_upto_region 1 with fail
  rw [← HW0.out]
  clear HW0
  go_wp2
  go_loopw [5, 6, 7] (fun vo vd vi wr => ∃ (k : Nat) (d : Bool) (O : List Ent), vd = .bool d ∧ vi = .int .i64 (k : Int) ∧ k ≤ t.length ∧ Hid (OwnE wr (w.heap.size + 1) vo O) ∧ Hid (O ++ noteG ⟨rp, rs, rr⟩ d (t.drop k) = NL) ∧ Hid (Below w.heap.size w wr) ∧ Hid (Br wr w.heap.size #[.int .i64 ri, .int .i64 rp, .int .i64 rs, .int .i64 oc, .int .i64 oa, .int .i64 ob, .int .i64 rr])) (fun _ _ vi _ => t.length - (intOf vi).toNat)
  case atStart => exact ⟨0, false, [], rfl, rfl, Nat.zero_le _, hide (OwnE.nil _ _), HN0, HB0, HX0⟩
  case round =>
    clear HN0 HB0 HX0
    obtain ⟨k, d, O, rfl, rfl, hk, hO, hN, hB, hX⟩ := hrel
    have HOL : Hid (O.length ≤ 2001) := hide (by
      have h1 := HLN.out
      rw [← hN.out, List.length_append] at h1
      omega)
    obtain ⟨va, vc, hv⟩ := hO.out.shape
    subst hv
    by_cases hlt : k < t.length
    case neg =>
      have hni : ¬ (k : Int) < (t.length : Int) := by omega
      have hdr : t.drop k = [] := List.drop_of_length_le (by omega)
      rw [hdr] at hN
      clear hdr
      cases d with
      | true =>
        have HE : Hid (O = NL) := hide (by have := hN.out; simpa [noteG] using this)
        go_wp2
        go_ret
        exact ⟨_, rfl, by rw [← HE.out]; exact hO.out.mono (by omega), hB.out⟩
      | false =>
        have HE : Hid (O ++ [⟨rp, rs, rr⟩] = NL) := hide (by have := hN.out; simpa [noteG] using this)
        obtain ⟨q1, -⟩ := hX.out.cell 1
        obtain ⟨q2, -⟩ := hX.out.cell 2
        obtain ⟨q6, -⟩ := hX.out.cell 6
        have hs : w.heap.size + 1 ≤ wr.heap.size := hX.out.lt
        have hol := HOL.out
        go_wp2_with (at_builtin; refine wpList_append_ent _ rfl _ _ rfl (w.heap.size + 1) _ O rfl hO.out ⟨rp, rs, rr⟩ rfl (by omega) hs ?_)
        intro v5 W5 ho5 hb5
        have HO5 := hide (ho5.mono (B' := w.heap.size) (by omega))
        have HB5 := hide (below_up hB.out hb5 (by omega))
        clear ho5 hb5
        go_wp2
        go_ret
        exact ⟨_, rfl, by rw [← HE.out]; exact HO5.out, HB5.out⟩
    have hki : (k : Int) < (t.length : Int) := by omega
    rcases HTA.out with h0 | ⟨c, off, rfl, hc⟩
    · rw [h0] at hlt; simp at hlt
    rw [dropE_cons hlt] at hN
    have HEA := hide (hc k hlt)
    clear hc HTA
    obtain ⟨x, hx⟩ : ∃ x, x = t.getD k zeroE := ⟨_, rfl⟩
    rw [← hx] at HEA hN
    clear hx
    obtain ⟨xp, xs, xr⟩ := x
    have HKP : Hid (∀ W, Below w.heap.size w W → W.cell? ⟨c, off + k * 3, none⟩ = some (.int .i64 xp) ∧ W.cell? ⟨c, off + k * 3 + 1, none⟩ = some (.int .i64 xs) ∧ W.cell? ⟨c, off + k * 3 + 2, none⟩ = some (.int .i64 xr)) := hide (fun W h => HEA.out.keep (h.block c HEA.out.lt))
    clear HEA
    obtain ⟨c0, c1, c2⟩ := HKP.out wr hB.out
    obtain ⟨q1, -⟩ := hX.out.cell 1
    obtain ⟨g, hg⟩ : ∃ g, g = (!d && decide (rp < xp)) := ⟨_, rfl⟩
    have HG := hide hg
    clear hg
    go_upto_region 6 with fail
    go_cut [25] (fun cb wc => cb = .bool g ∧ Hid (OwnE wc (w.heap.size + 1) (.slice va O.length vc) O) ∧ Hid (Below w.heap.size w wc) ∧ Hid (Br wc w.heap.size #[.int .i64 ri, .int .i64 rp, .int .i64 rs, .int .i64 oc, .int .i64 oa, .int .i64 ob, .int .i64 rr]))
    case first =>
      have HDN : Hid (∀ n, OwnE (wr.drewN n) (w.heap.size + 1) (.slice va O.length vc) O ∧ Below w.heap.size w (wr.drewN n) ∧ Br (wr.drewN n) w.heap.size #[.int .i64 ri, .int .i64 rp, .int .i64 rs, .int .i64 oc, .int .i64 oa, .int .i64 ob, .int .i64 rr]) := hide (fun n => ⟨hO.out.below (below_drewN (Below.refl wr.heap.size wr) n) (Nat.le_refl _), below_drewN hB.out n, hX.out.below (below_drewN (Below.refl wr.heap.size wr) n) (Nat.le_refl _)⟩)
      cases d with
      | true =>
        have HE : Hid (false = g) := hide (by rw [HG.out]; rfl)
        go_quiet (fail)
        go_wp2
        go_meet
        exact ⟨by rw [HE.out], hide (HDN.out _).1, hide (HDN.out _).2.1, hide (HDN.out _).2.2⟩
      | false =>
        by_cases hgt : rp < xp
        · have HE : Hid (true = g) := hide (by rw [HG.out, decide_eq_true hgt]; rfl)
          go_quiet (fail)
          go_wp2
          go_meet
          exact ⟨by rw [HE.out], hide (HDN.out _).1, hide (HDN.out _).2.1, hide (HDN.out _).2.2⟩
        · have HE : Hid (false = g) := hide (by rw [HG.out, decide_eq_false hgt]; rfl)
          have hgd : decide (rp < xp) = false := decide_eq_false hgt
          go_quiet (fail)
          go_wp2
          go_meet
          exact ⟨by rw [HE.out], hide (HDN.out _).1, hide (HDN.out _).2.1, hide (HDN.out _).2.2⟩
    case rest =>
    clear hO hB hX c0 c1 c2 q1
    obtain ⟨W1, rfl⟩ : ∃ W, W = wc := ⟨_, rfl⟩
    obtain ⟨rfl, hO, hB, hX⟩ := hcut
    have hs1 : w.heap.size + 1 ≤ W1.heap.size := hX.out.lt
    cases g with
    | true =>
      have HD : Hid (d = false ∧ rp < xp) := hide (by
        have h := HG.out
        cases d
        · refine ⟨rfl, ?_⟩
          by_cases hc : rp < xp
          · exact hc
          · rw [decide_eq_false hc] at h; cases h
        · cases h)
      obtain ⟨hd, hgt⟩ := HD.out
      subst hd
      have HNN := hide (noteG_gt (e := ⟨rp, rs, rr⟩) (x := ⟨xp, xs, xr⟩) hgt (t.drop (k + 1)) O NL hN.out)
      obtain ⟨q1, -⟩ := hX.out.cell 1
      obtain ⟨q2, -⟩ := hX.out.cell 2
      obtain ⟨q6, -⟩ := hX.out.cell 6
      have hol := HOL.out
      clear HD hN HG
      go_wp2_with (at_builtin; refine wpList_append_ent _ rfl _ _ rfl (w.heap.size + 1) _ O rfl hO.out ⟨rp, rs, rr⟩ rfl (by omega) hs1 ?_)
      intro v2 W2 ho2 hb2
      have HB2 := hide (below_up hB.out hb2 (by omega))
      have HX2 : Hid (Br W2 w.heap.size #[.int .i64 ri, .int .i64 rp, .int .i64 rs, .int .i64 oc, .int .i64 oa, .int .i64 ob, .int .i64 rr]) := hide ((hb2.block w.heap.size (by omega)).trans hX.out)
      have HO2 := hide ho2
      obtain ⟨v2a, v2c, hv⟩ := ho2.shape
      subst hv
      have hs2 : w.heap.size + 1 ≤ W2.heap.size := HX2.out.lt
      have HOL2 : Hid ((O ++ [(⟨rp, rs, rr⟩ : Ent)]).length ≤ 2002) := hide (by rw [List.length_append, List.length_singleton]; omega)
      generalize O ++ [(⟨rp, rs, rr⟩ : Ent)] = O2 at *
      clear ho2 hb2 hO hB hX q1 q2 q6 HOL hol
      obtain ⟨c0, c1, c2⟩ := HKP.out W2 HB2.out
      obtain ⟨q1, -⟩ := HX2.out.cell 1
      have hne : (xp != rp) = true := by rw [bne_iff_ne]; omega
      go_upto_region 9 with fail
      go_quiet (fail)
      have hol2 := HOL2.out
      have HDN : Hid (∀ n, OwnE (W2.drewN n) (w.heap.size + 1) (.slice v2a O2.length v2c) O2 ∧ Below w.heap.size w (W2.drewN n) ∧ Br (W2.drewN n) w.heap.size #[.int .i64 ri, .int .i64 rp, .int .i64 rs, .int .i64 oc, .int .i64 oa, .int .i64 ob, .int .i64 rr]) := hide (fun n => ⟨HO2.out.below (below_drewN (Below.refl W2.heap.size W2) n) (Nat.le_refl _), below_drewN HB2.out n, HX2.out.below (below_drewN (Below.refl W2.heap.size W2) n) (Nat.le_refl _)⟩)
      go_wp2_with (at_builtin; refine wpList_append_ent _ rfl _ _ rfl (w.heap.size + 1) _ O2 rfl (HDN.out _).1 ⟨xp, xs, xr⟩ rfl (by omega) (HDN.out _).2.2.lt ?_)
      intro v3 W3 ho3 hb3
      have HB3 := hide (below_up (HDN.out _).2.1 hb3 (by omega))
      have HX3 := hide ((hb3.block w.heap.size (by omega)).trans (HDN.out _).2.2)
      have HO3 := hide ho3
      clear ho3 hb3
      go_wp2
      go_roundw
      case rel => exact ⟨k + 1, true, O2 ++ [⟨xp, xs, xr⟩], rfl, by go_num, by omega, HO3, HNN, HB3, HX3⟩
      case measure => simp [intOf]; omega
    | false =>
      have HD : Hid (¬ rp < xp ∨ d = true) := hide (by
        have := HG.out
        cases d
        · left; intro h; rw [decide_eq_true h] at this; cases this
        · right; rfl)
      have hol := HOL.out
      have HDN : Hid (∀ n, OwnE (W1.drewN n) (w.heap.size + 1) (.slice va O.length vc) O ∧ Below w.heap.size w (W1.drewN n) ∧ Br (W1.drewN n) w.heap.size #[.int .i64 ri, .int .i64 rp, .int .i64 rs, .int .i64 oc, .int .i64 oa, .int .i64 ob, .int .i64 rr]) := hide (fun n => ⟨hO.out.below (below_drewN (Below.refl W1.heap.size W1) n) (Nat.le_refl _), below_drewN hB.out n, hX.out.below (below_drewN (Below.refl W1.heap.size W1) n) (Nat.le_refl _)⟩)
      obtain ⟨c0, c1, c2⟩ := HKP.out W1 hB.out
      obtain ⟨q1, -⟩ := hX.out.cell 1
      clear HG
      by_cases hxe : xp = rp
      · have hne : (xp != rp) = false := by rw [bne_eq_false_iff_eq]; exact hxe
        have HNN := hide (noteG_eq (e := ⟨rp, rs, rr⟩) (x := ⟨xp, xs, xr⟩) hxe (t.drop (k + 1)) O NL hN.out)
        clear hxe hN HD
        go_upto_region 9 with fail
        go_quiet (fail)
        go_wp2
        go_roundw
        case rel => exact ⟨k + 1, d, O, rfl, by go_num, by omega, hide (HDN.out _).1, HNN, hide (HDN.out _).2.1, hide (HDN.out _).2.2⟩
        case measure => simp [intOf]; omega
      · have hne : (xp != rp) = true := by rw [bne_iff_ne]; exact hxe
        have HNN := hide (noteG_ne (e := ⟨rp, rs, rr⟩) (x := ⟨xp, xs, xr⟩) HD.out hxe (t.drop (k + 1)) O NL hN.out)
        clear hxe hN HD
        go_upto_region 9 with fail
        go_quiet (fail)
        go_wp2_with (at_builtin; refine wpList_append_ent _ rfl _ _ rfl (w.heap.size + 1) _ O rfl (HDN.out _).1 ⟨xp, xs, xr⟩ rfl (by omega) (HDN.out _).2.2.lt ?_)
        intro v3 W3 ho3 hb3
        have HB3 := hide (below_up (HDN.out _).2.1 hb3 (by omega))
        have HX3 := hide ((hb3.block w.heap.size (by omega)).trans (HDN.out _).2.2)
        have HO3 := hide ho3
        clear ho3 hb3
        go_wp2
        go_roundw
        case rel => exact ⟨k + 1, d, O ++ [⟨xp, xs, xr⟩], rfl, by go_num, by omega, HO3, HNN, HB3, HX3⟩
        case measure => simp [intOf]; omega

end Go.Proofs.Ytgpdbboieokldaa
