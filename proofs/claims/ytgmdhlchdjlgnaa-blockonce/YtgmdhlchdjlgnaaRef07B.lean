/- Contract of ferrymanref07: Encode. -/
import Derived.Test.YtgmdhlchdjlgnaaRef07A
import Derived.Deep.RegionHeld
namespace Go.Proofs.Ytgmdhlchdjlgnaa
open Go.RowKit

theorem putOpL_len30 {o : Opn} (h : FitsO o) : (putOpL o).length ≤ 30 := by
  have h1 := uv10 (fits_i64 h).1
  have h2 := uv10 (fits_i64 h).2
  have hc0 : 0 ≤ o.code := h.1
  have hc1 : o.code ≤ 10 := h.2.1
  have h3 := uv10' (n := o.code.toNat) (by omega)
  unfold putOpL
  rw [List.length_append, List.length_append]
  omega

theorem encOne_len {pre : List Rec} (hp : ∀ r ∈ pre, FitsR r) {r : Rec} (hr : FitsR r) : (encOne pre r).length ≤ 60 := by
  have hd := diff_i64 hp hr
  have hresp := fitsR_resp hr
  have h4 := putOpL_len30 hr.1
  obtain ⟨_, _, _, _, _, hp0, hp1, _⟩ := hr
  have h1 := uv10' (n := r.proc.toNat) (by omega)
  have h2 := uv10 hd
  have h3 := uv10 hresp
  unfold encOne
  simp only [List.length_append]
  omega

theorem encRs_len : ∀ (l pre : List Rec), (∀ r ∈ pre, FitsR r) → (∀ r ∈ l, FitsR r) → (encRs pre l).length ≤ 60 * l.length
  | [], _, _, _ => by simp [encRs]
  | r :: t, pre, hp, hl => by
    have h1 := encOne_len hp (hl r (by simp))
    have h2 := encRs_len t (pre ++ [r]) (fun s hs => by
      rcases List.mem_append.1 hs with h | h
      · exact hp s h
      · simp at h; rw [h]; exact hl r (by simp)) (fun s hs => hl s (by simp [hs]))
    rw [encRs, List.length_append, List.length_cons]
    omega

/-- What is encoded: the bytes, or none and ErrArg. -/
def EncodedB (w : World) (l : List Rec) (e : Ending) (w' : World) : Prop :=
  ∃ v', e = .returned (.tuple #[v', .int .i64 (if FitsB l then 0 else 1)]) ∧ Own w' w.heap.size v' (if FitsB l then encB l else []) ∧ Below w.heap.size w w'

set_option maxRecDepth 100000 in
set_option maxHeartbeats 4000000 in
theorem refEncodeB_any (v : Value) (l : List Rec) (w : World) (hr : RdR w v l) :
    Calls Try.prog 11 #[v] w fun e w' => EncodedB w l e w' := by
  have HR := hide hr
  have HF := hide (fun W h => refFitsB_any v l W h)
  obtain ⟨ao, cap, rfl, hlc, hcm, -, -, hao⟩ := hr
  have hml : (l.length : Int) ≤ 9223372036854775807 := by unfold maxLen at hcm; omega
  have HAO := hide hao
  have HLC := hide hlc
  clear hao hlc hcm
  unfold EncodedB
  by_cases hf : FitsB l
  case neg =>
    simp only [if_neg hf]
    rw [decide_eq_false hf] at HF
    clear hf
    go_enter Try.func11, Try.ntmps11
    go_wp2_with fail
    refine (HF.out _ HR.out).mono ?_
    rintro e W1 ⟨rfl, hb1⟩
    have HB1 := hide hb1
    clear hb1
    go_wp2
    go_ret2
    exact ⟨_, rfl, Own.nil _ _, HB1.out⟩
  simp only [if_pos hf]
  rw [decide_eq_true hf] at HF
  have h1 : 1 ≤ l.length := hf.1
  have h2 : l.length ≤ 256 := hf.2.1
  rcases HAO.out with h0 | ⟨c, off, rfl, hc⟩
  · rw [h0] at h1; simp at h1
  have HAT : Hid (∀ k, k < l.length → ∀ W, Below w.heap.size w W → RecAt W c (off + k * 7) (l.getD k zeroR)) := hide (fun k hk W h => (hc k hk).keep (h.block c (hc k hk).lt))
  have HFR : Hid (∀ k, k < l.length → FitsR (l.getD k zeroR)) := hide (fun k hk => hf.2.2.1 _ (by simp [List.getD, hk]))
  have HFT : Hid (∀ k, ∀ r ∈ l.take k, FitsR r) := hide (fun k r hr => hf.2.2.1 r (List.mem_of_mem_take hr))
  have hh : l.headD zeroR = l.getD 0 zeroR := by cases l <;> simp
  obtain ⟨_, i0, i1, _⟩ := HFR.out 0 h1
  have HP := hide (fun v l n w h hl => refPut_any v l n w h hl)
  have HS := hide (fun v l n w h hl (hi : I64 n) => refPutSigned_any v l n w h hl hi.1 hi.2)
  have HO := hide (fun v l o w h hl => refPutOp_any v l o w h hl)
  have HLA := hide (fun v l p w h => refLast_any v l p w h)
  have HEB : Hid (encB l = (Lib.uvarint (l.getD 0 zeroR).idx.toNat ++ Lib.uvarint l.length) ++ encRs [] (l.take l.length)) := hide (by
    unfold encB
    rw [hh, List.take_length, List.append_assoc])
  have HNX := hide (fun k hk => encRs_snoc l k hk)
  have HLN : Hid (∀ k, (encRs [] (l.take k)).length ≤ 60 * 256) := hide (fun k => by
    have h3 := encRs_len (l.take k) [] (fun r hr => by simp at hr) (HFT.out k)
    have h4 : (l.take k).length ≤ l.length := by simp; omega
    omega)
  have u1 := uv10' (n := (l.getD 0 zeroR).idx.toNat) (by omega)
  have u2 := uv10' (n := l.length) (by omega)
  have HP1 : Hid (∀ W, Calls Try.prog 20 #[.slice none 0 0, .int .i64 (l.getD 0 zeroR).idx] W fun e w' => ∃ v', e = .returned v' ∧ Own w' W.heap.size v' (Lib.uvarint (l.getD 0 zeroR).idx.toNat) ∧ Below W.heap.size W w') := fun W => by
    have h := HP.out (.slice none 0 0) [] (l.getD 0 zeroR).idx W (Rd.nil W) (by simp)
    rw [putOf_small i0 (by omega), List.nil_append] at h
    exact h
  have HP2 : Hid (∀ v1 A W, A.length ≤ 10 → Rd W v1 A → Calls Try.prog 20 #[v1, .int .i64 (l.length : Int)] W fun e w' => ∃ v', e = .returned v' ∧ Own w' W.heap.size v' (A ++ Lib.uvarint l.length) ∧ Below W.heap.size W w') := fun v1 A W hA h => by
    have h := HP.out v1 A (l.length : Int) W h (by omega)
    rw [putOf_small (by omega) (by omega), Int.toNat_natCast] at h
    exact h
  rw [HEB.out]
  have hHl : (Lib.uvarint (l.getD 0 zeroR).idx.toNat ++ Lib.uvarint l.length).length ≤ 20 := by rw [List.length_append]; omega
  have hc00 := (HAT.out 0 h1)
  have HC0 := hide hc00
  clear hf hc hh HEB i0 i1 u2 hc00
  generalize (l.getD 0 zeroR) = r0 at *
  generalize Lib.uvarint r0.idx.toNat = A at *
  obtain ⟨H, hH⟩ : ∃ H, H = A ++ Lib.uvarint l.length := ⟨_, rfl⟩
  rw [← hH] at hHl ⊢
  have HH := hide hH
  clear hH
  go_enter Try.func11, Try.ntmps11
  go_wp2_with fail
  refine (HF.out _ HR.out).mono ?_
  rintro e W1 ⟨rfl, hb1⟩
  have HB1 := hide hb1
  have hk0 : W1.cell? ⟨c, off, none⟩ = some (.int .i64 r0.idx) := by
    have h := (HC0.out W1 hb1).1
    rwa [Nat.zero_mul, Nat.add_zero] at h
  clear hb1
  have hpos : (0 : Int) < (l.length : Int) := by omega
  go_wp2_with fail
  refine (HP1.out _).mono ?_
  rintro e W2 ⟨v2, rfl, ho2, hb2⟩
  have HO2 := hide ho2.rd
  have HB2 := hide (HB1.out.trans (hb2.mono HB1.out.size))
  clear ho2 hb2 hk0 HB1
  go_wp2_with fail
  refine (HP2.out _ _ _ u1 HO2.out).mono ?_
  rintro e W3 ⟨v3, rfl, ho3, hb3⟩
  rw [← HH.out] at ho3
  have HO3 := hide (ho3.mono HB2.out.size)
  have HB3 := hide (HB2.out.trans (hb3.mono HB2.out.size))
  clear ho3 hb3 HO2 HB2 HP1 HP2
  go_wp2
  go_loopw [5, 6] (fun vo vi wr => ∃ k : Nat, vi = .int .i64 (k : Int) ∧ k ≤ l.length ∧ Hid (Own wr w.heap.size vo (H ++ encRs [] (l.take k))) ∧ Hid (Below w.heap.size w wr)) (fun _ vi _ => l.length - (intOf vi).toNat)
  case atStart => exact ⟨0, rfl, Nat.zero_le _, by simpa [encRs] using HO3, HB3⟩
  case round =>
    clear HO3 HB3
    obtain ⟨k, rfl, hk, hO, hB⟩ := hrel
    by_cases hlt : k < l.length
    case neg =>
      have hke : l.take k = l.take l.length := by rw [List.take_length, List.take_of_length_le (by omega)]
      rw [hke] at hO
      clear hke
      go_wp2
      go_ret2
      exact ⟨_, rfl, hO.out, hB.out⟩
    have hqi : (k : Int) < (l.length : Int) := by omega
    have hfr := HFR.out k hlt
    have HDI : Hid (I64 ((l.getD k zeroR).seq - lastSeq (l.take k) (l.getD k zeroR).proc)) := hide (diff_i64 (HFT.out k) hfr)
    have HRI : Hid (I64 (l.getD k zeroR).resp) := hide (fitsR_resp hfr)
    have HFO : Hid (FitsO (l.getD k zeroR).op) := hide hfr.1
    obtain ⟨_, _, _, hs0, hs1, hp0, hp1, _⟩ := hfr
    have HCUT : Hid (∀ W, (Instr.sliceAt 22 (.slice (some ⟨c, off, none⟩) l.length cap) none (some (.int .i64 (k : Int))) none).run Try.prog W = .ok (.slice (some ⟨c, off, none⟩) k cap) W) := fun W => run_front_recs W _ _ _ _ k rfl (by have := HLC.out; omega)
    have HLS : Hid (∀ W, Below w.heap.size w W → Calls Try.prog 22 #[.slice (some ⟨c, off, none⟩) k cap, .int .i64 (l.getD k zeroR).proc] W fun e w' => e = .returned (.int .i64 (lastSeq (l.take k) (l.getD k zeroR).proc)) ∧ w' = W) := fun W h => HLA.out _ _ _ W ((HR.out.below h (Nat.le_refl _)).front k (by omega))
    have HRA := hide (HAT.out k hlt)
    have hLK := HLN.out k
    have HLK : Hid ((H ++ encRs [] (l.take k)).length ≤ 20000) := hide (by rw [List.length_append]; omega)
    have HNK : Hid (H ++ encRs [] (l.take (k + 1)) = (((H ++ encRs [] (l.take k)) ++ Lib.uvarint (l.getD k zeroR).proc.toNat) ++ Lib.uvarint (Lib.zigzag ((l.getD k zeroR).seq - lastSeq (l.take k) (l.getD k zeroR).proc))) ++ putOpL (l.getD k zeroR).op ++ Lib.uvarint (Lib.zigzag (l.getD k zeroR).resp)) := hide (by
      rw [HNX.out k hlt]
      unfold encOne
      simp only [List.append_assoc])
    have q1 := uv10' (n := (l.getD k zeroR).proc.toNat) (by omega)
    have q2 := uv10 HDI.out
    have q3 := putOpL_len30 HFO.out
    clear hLK
    obtain ⟨r, hr⟩ : ∃ r, r = l.getD k zeroR := ⟨_, rfl⟩
    rw [← hr] at HDI HRI HFO HLS HRA HNK q1 q2 q3 hs0 hs1 hp0 hp1
    clear hr
    obtain ⟨ls, hls⟩ : ∃ ls, ls = lastSeq (l.take k) r.proc := ⟨_, rfl⟩
    rw [← hls] at HDI HLS HNK q2
    clear hls
    have HP3 : Hid (∀ v1 P W, P.length ≤ 30000 → Rd W v1 P → Calls Try.prog 20 #[v1, .int .i64 r.proc] W fun e w' => ∃ v', e = .returned v' ∧ Own w' W.heap.size v' (P ++ Lib.uvarint r.proc.toNat) ∧ Below W.heap.size W w') := fun v1 P W hP h => by
      have h := HP.out v1 P r.proc W h (by omega)
      rw [putOf_small hp0 (by omega)] at h
      exact h
    have HO4 : Hid (∀ v1 P W, P.length ≤ 30000 → Rd W v1 P → Calls Try.prog 23 #[v1, .agg #[.int .i64 r.op.code, .int .i64 r.op.a, .int .i64 r.op.b]] W fun e w' => ∃ v', e = .returned (.tuple #[v', .int .i64 0]) ∧ Own w' W.heap.size v' (P ++ putOpL r.op) ∧ Below W.heap.size W w') := fun v1 P W hP h => by
      have h := HO.out v1 P r.op W h (by omega)
      unfold Putted at h
      rw [if_pos HFO.out, if_pos HFO.out] at h
      exact h
    obtain ⟨P0, hP0⟩ : ∃ P0, P0 = H ++ encRs [] (l.take k) := ⟨_, rfl⟩
    rw [← hP0] at hO HLK HNK
    obtain ⟨P1, hP1⟩ : ∃ P1, P1 = P0 ++ Lib.uvarint r.proc.toNat := ⟨_, rfl⟩
    have l1 : P1.length ≤ 20010 := by have := HLK.out; rw [hP1, List.length_append]; omega
    obtain ⟨P2, hP2⟩ : ∃ P2, P2 = P1 ++ Lib.uvarint (Lib.zigzag (r.seq - ls)) := ⟨_, rfl⟩
    have l2 : P2.length ≤ 20020 := by rw [hP2, List.length_append]; omega
    obtain ⟨P3, hP3⟩ : ∃ P3, P3 = P2 ++ putOpL r.op := ⟨_, rfl⟩
    have l3 : P3.length ≤ 20050 := by rw [hP3, List.length_append]; omega
    rw [← hP1, ← hP2, ← hP3] at HNK
    have E1 := hide hP1
    have E2 := hide hP2
    have E3 := hide hP3
    clear hP0 hP1 hP2 hP3 q1 q2 q3 hs0 hs1 hp0 hp1 HP HO HLA HFR HFT HNX HLN HAT
    have L0 := HLK.out
    obtain ⟨-, c1, -⟩ := HRA.out wr hB.out
    go_wp2_with fail
    refine (HP3.out _ _ _ (by omega) hO.out.rd).mono ?_
    rintro e W4 ⟨v4, rfl, ho4, hb4⟩
    rw [← E1.out] at ho4
    have HO4' := hide ho4.rd
    have HB4 := hide (hB.out.trans (hb4.mono hB.out.size))
    obtain ⟨-, d1, d2, -⟩ := HRA.out W4 HB4.out
    clear ho4 hb4 c1 hO HP3
    have hcut := HCUT.out
    have hdw : IntKind.i64.wrap (r.seq - ls) = r.seq - ls := wrap_id HDI.out
    have HSG : Hid (∀ W v1, Rd W v1 P1 → Calls Try.prog 21 #[v1, .int .i64 (r.seq - ls)] W fun e w' => ∃ v', e = .returned v' ∧ Own w' W.heap.size v' P2 ∧ Below W.heap.size W w') := fun W v1 h => by
      have h := HS.out v1 P1 (r.seq - ls) W h (by omega) HDI.out
      rw [← E2.out] at h
      exact h
    obtain ⟨a4, n4, rfl⟩ : ∃ a4 n4, v4 = .slice a4 P1.length n4 := by
      obtain ⟨a4, n4, h, -⟩ := HO4'.out
      exact ⟨a4, n4, h⟩
    go_upto_region 10 with fail
    go_cut [5] (fun x wc => Hid (Own wc w.heap.size x P2) ∧ Hid (Below w.heap.size w wc))
    case first =>
      go_region_held (fun w' => w'.cell? ⟨c, off + k * 7 + 1, none⟩ = some (.int .i64 r.proc) ∧ w'.cell? ⟨c, off + k * 7 + 2, none⟩ = some (.int .i64 r.seq)) (go_keep)
        (first
          | (go_at_call 22; refine (HLS.out _ (HB4.out.drew)).mono ?_; rintro e w' ⟨rfl, rfl⟩)
          | (go_at_call 21; refine (HSG.out _ _ (HO4'.out.below ((Below.refl _ _).drew) (Nat.le_refl _))).mono ?_; rintro e W5 ⟨v5, rfl, ho5, hb5⟩; have hb45 := HB4.out.drew.trans (hb5.mono HB4.out.size); have HO5 := hide (ho5.mono HB4.out.size); have HB5 := hide hb45; obtain ⟨-, f1, f2, -⟩ := HRA.out W5 hb45; clear ho5 hb5 hb45))
      all_goals
        go_wp2
        go_meet
        exact ⟨HO5, HB5⟩
    case rest =>
      obtain ⟨HO5, HB5⟩ := hcut
      clear d1 d2 HO4' HB4 HSG HLS
      have HR5 := hide HO5.out.rd
      obtain ⟨-, -, -, c3, c4, c5, -⟩ := HRA.out _ HB5.out
      go_wp2_with fail
      refine (HO4.out _ _ _ (by omega) HR5.out).mono ?_
      rintro e W6 ⟨v6, rfl, ho6, hb6⟩
      rw [← E3.out] at ho6
      have HO6 := hide ho6.rd
      have HB6 := hide (HB5.out.trans (hb6.mono HB5.out.size))
      obtain ⟨-, -, -, -, -, -, c6⟩ := HRA.out _ HB6.out
      clear ho6 hb6 c3 c4 c5 HR5 HO5 HB5 HO4
      have HSR : Hid (∀ W v1, Rd W v1 P3 → Calls Try.prog 21 #[v1, .int .i64 r.resp] W fun e w' => ∃ v', e = .returned v' ∧ Own w' W.heap.size v' (H ++ encRs [] (l.take (k + 1))) ∧ Below W.heap.size W w') := fun W v1 h => by
        have h := HS.out v1 P3 r.resp W h (by omega) HRI.out
        rw [← HNK.out] at h
        exact h
      go_wp2_with fail
      refine (HSR.out _ _ HO6.out).mono ?_
      rintro e W7 ⟨v7, rfl, ho7, hb7⟩
      have HO7 := hide (ho7.mono HB6.out.size)
      have HB7 := hide (HB6.out.trans (hb7.mono HB6.out.size))
      clear ho7 hb7 c6
      go_wp2
      go_roundw
      case rel => exact ⟨k + 1, by go_num, by omega, HO7, HB7⟩
      case measure => simp [intOf]; omega

end Go.Proofs.Ytgmdhlchdjlgnaa
