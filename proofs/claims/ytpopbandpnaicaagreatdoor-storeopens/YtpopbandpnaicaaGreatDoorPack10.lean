import Derived.Test.YtpopbandpnaicaaGreatDoorPack8
import Derived.Test.YtpopbandpnaicaaGreatDoorPack9
import Derived.Test.YtpopbandpnaicaaGreatDoorPack7
namespace Go.Proofs.YtpopbandpnaicaaGreatDoor
open Go.RowKit

theorem concat2 (W : World) (N : Nat) (hN : N = W.heap.size) (v0 v1 : Value) (l0 l1 : List UInt8) (h0 : Rd W v0 l0) (h1 : Rd W v1 l1) (hlim : l0.length + l1.length <= 1000000) :
   Calls Tryz.prog 135 #[.slice (some ⟨N, 0, none⟩) 2 2] (W.alloc (.cells #[v0, v1] 53)) fun e w' => ∃ v', e = .returned v' ∧ Own w' W.heap.size v' (l0 ++ l1) ∧ Below W.heap.size W w' := by
 have hr := RdL.built W N hN #[v0, v1] [l0, l1] (by simp) (fun j hj => by
   match j, hj with
   | 0, _ => exact ⟨v0, rfl, h0⟩
   | 1, _ => exact ⟨v1, rfl, h1⟩)
 have ef : [l0, l1].flatten = l0 ++ l1 := by simp
 refine (concat_any _ _ _ hr (by rw [ef]; simp only [List.length_append]; omega) (by simp)).mono ?_
 rintro e w' ⟨v', rfl, ho, hb⟩
 rw [ef] at ho
 exact ⟨v', rfl, ho.mono (by simp), ((Below.refl _ _).alloc (Nat.le_refl _) _).trans (hb.mono (by simp))⟩

set_option maxRecDepth 100000 in
set_option maxHeartbeats 4000000 in
theorem recordBytes_any (r : Rec) (d : Int) (w : World) (hr : FitsR r) (hd : I64 d) :
   Calls Tryz.prog 137 #[recV r, .int .i64 d] w fun e w' => ∃ v', e = .returned v' ∧ Own w' w.heap.size v' (Lib.uvarint r.proc.toNat ++ (Lib.uvarint (Lib.zigzag d) ++ (putOpL r.op ++ Lib.uvarint (Lib.zigzag r.resp)))) ∧ Below w.heap.size w w' := by
 have HB0 : Hid (∀ X, Below w.heap.size w (w.alloc X)) := fun X => (Below.refl _ _).alloc (Nat.le_refl _) X
 have X1 : Hid (∀ cs, Br (w.alloc (.cells cs 66)) w.heap.size cs) := fun cs => heap_alloc_new w _
 have HO0 := hide (fun W => putOp_own (.slice none 0 0) [] r.op W (Rd.nil W) (by simp))
 unfold PutO at HO0
 rw [if_pos hr.1, if_pos hr.1, List.nil_append] at HO0
 have HRI := hide (fitsR_resp hr)
 have hl3 := putOpL_len30 hr.1
 obtain ⟨_, _, _, _, _, hp0, hp1, _⟩ := hr
 have hl1 := uv10' (n := r.proc.toNat) (by omega)
 have hl2 := uv10 hd
 have hl4 := uv10 HRI.out
 have HP : Hid (∀ W, Calls Tryz.prog 136 #[.slice none 0 0, .int .i64 r.proc] W fun e w' => ∃ v', e = .returned v' ∧ Own w' W.heap.size v' (Lib.uvarint r.proc.toNat) ∧ Below W.heap.size W w') := fun W => by
   have h := put_any (.slice none 0 0) [] r.proc W (Rd.nil W) (by simp)
   rw [putOf_small hp0 (by omega), List.nil_append] at h
   exact h
 have HA : Hid (∀ W, Calls Tryz.prog 145 #[.slice none 0 0, .int .i64 d] W fun e w' => ∃ v', e = .returned v' ∧ Own w' W.heap.size v' (Lib.uvarint (Lib.zigzag d)) ∧ Below W.heap.size W w') := fun W => by
   have h := putSigned_any (.slice none 0 0) [] d W (Rd.nil W) (by simp) hd.1 hd.2
   rw [List.nil_append] at h
   exact h
 have HB : Hid (∀ W, Calls Tryz.prog 145 #[.slice none 0 0, .int .i64 r.resp] W fun e w' => ∃ v', e = .returned v' ∧ Own w' W.heap.size v' (Lib.uvarint (Lib.zigzag r.resp)) ∧ Below W.heap.size W w') := fun W => by
   have h := putSigned_any (.slice none 0 0) [] r.resp W (Rd.nil W) (by simp) HRI.out.1 HRI.out.2
   rw [List.nil_append] at h
   exact h
 have HCC : Hid (∀ W N v0 v1 v2 v3, N = W.heap.size -> Rd W v0 (Lib.uvarint r.proc.toNat) -> Rd W v1 (Lib.uvarint (Lib.zigzag d)) -> Rd W v2 (putOpL r.op) -> Rd W v3 (Lib.uvarint (Lib.zigzag r.resp)) -> Calls Tryz.prog 135 #[.slice (some ⟨N, 0, none⟩) 4 4] (W.alloc (.cells #[v0, v1, v2, v3] 53)) fun e w' => ∃ v', e = .returned v' ∧ Own w' W.heap.size v' (Lib.uvarint r.proc.toNat ++ (Lib.uvarint (Lib.zigzag d) ++ (putOpL r.op ++ Lib.uvarint (Lib.zigzag r.resp)))) ∧ Below W.heap.size W w') := fun W N v0 v1 v2 v3 hN h0 h1 h2 h3 => concat4 W N hN v0 v1 v2 v3 _ _ _ _ h0 h1 h2 h3 (by omega)
 clear hl1 hl2 hl3 hl4 HRI hp0 hp1 hd
 unfold opV at HO0
 obtain ⟨idx, proc, seq, ⟨code, a, b⟩, resp⟩ := r
 show Calls Tryz.prog _ #[.agg #[.int .i64 idx, .int .i64 proc, .int .i64 seq, .int .i64 code, .int .i64 a, .int .i64 b, .int .i64 resp], .int .i64 d] w _
 dsimp only at *
 generalize Lib.uvarint proc.toNat = A at *
 generalize Lib.uvarint (Lib.zigzag d) = LA at *
 generalize Lib.uvarint (Lib.zigzag resp) = LB at *
 generalize putOpL ⟨code, a, b⟩ = LO at *
 generalize A ++ (LA ++ (LO ++ LB)) = LL at *
 go_enter Tryz.func137, Tryz.ntmps137
 go_wp2_with fail
 refine (HO0.out _).mono ?_
 rintro e W1 ⟨v1, rfl, ho1, hb1⟩
 have hx1 : Br W1 w.heap.size _ := (X1.out _).below hb1 (Nat.le_refl _)
 have HX1 := hide hx1
 have HB1 := hide ((HB0.out _).trans (hb1.mono (HB0.out _).size))
 have HOP := hide ho1.rd
 obtain ⟨a1, c1, rfl, -⟩ := ho1.rd
 obtain ⟨p1, -⟩ := hx1.cell 1
 obtain ⟨p6, -⟩ := hx1.cell 6
 have hsz1 := HB1.out.size
 clear hb1 hx1 ho1 HO0
 go_wp2
 go_region_held (fun w' => w'.cell? ⟨w.heap.size, 1, none⟩ = some (.int .i64 proc) ∧ w'.cell? ⟨w.heap.size, 6, none⟩ = some (.int .i64 resp)) (go_keep)
   (first
     | (go_at_call 136; refine (HP.out _).mono ?_; rintro e W2 ⟨v2, rfl, ho2, hb2⟩; have hx2 := HX1.out.below (((Below.refl _ _).drew).trans hb2) (Nat.le_refl _); have HX2 := hide hx2; have HB2 := hide (HB1.out.trans ((((Below.refl _ _).drew).trans hb2).mono HB1.out.size)); have HOP2 := hide (HOP.out.below (((Below.refl _ _).drew).trans hb2) (Nat.le_refl _)); obtain ⟨a2, c2, rfl, -⟩ := ho2.rd; have HO2 := hide ho2.rd; obtain ⟨q1, -⟩ := hx2.cell 1; obtain ⟨q6, -⟩ := hx2.cell 6; clear ho2 hb2 hx2)
     | (go_at_call_of 145 (Value.int .i64 d); refine (HA.out _).mono ?_; rintro e W3 ⟨v3, rfl, ho3, hb3⟩; have hx3 := HX2.out.below hb3 (Nat.le_refl _); have HX3 := hide hx3; have HB3 := hide (HB2.out.trans (hb3.mono HB2.out.size)); have HO23 := hide (HO2.out.below hb3 (Nat.le_refl _)); have HOP3 := hide (HOP2.out.below hb3 (Nat.le_refl _)); obtain ⟨a3, c3, rfl, -⟩ := ho3.rd; have HO3 := hide ho3.rd; obtain ⟨r1, -⟩ := hx3.cell 1; obtain ⟨r6, -⟩ := hx3.cell 6; clear ho3 hb3 hx3)
     | (go_at_call_of 145 (Value.int .i64 resp); refine (HB.out _).mono ?_; rintro e W4 ⟨v4, rfl, ho4, hb4⟩; have hx4 := HX3.out.below hb4 (Nat.le_refl _); have HX4 := hide hx4; have HB4 := hide (HB3.out.trans (hb4.mono HB3.out.size)); have HO24 := hide (HO23.out.below hb4 (Nat.le_refl _)); have HO34 := hide (HO3.out.below hb4 (Nat.le_refl _)); have HOP4 := hide (HOP3.out.below hb4 (Nat.le_refl _)); obtain ⟨a4, c4, rfl, -⟩ := ho4.rd; have HO4 := hide ho4.rd; obtain ⟨s1, -⟩ := hx4.cell 1; obtain ⟨s6, -⟩ := hx4.cell 6; clear ho4 hb4 hx4)
     | (go_at_call 135; refine (HCC.out W4 W4.heap.size _ _ _ _ rfl HO24.out HO34.out HOP4.out HO4.out).mono ?_; rintro e W5 ⟨v5, rfl, ho5, hb5⟩; have hx5 := HX4.out.below hb5 (Nat.le_refl _); have HB5 := hide (HB4.out.trans (hb5.mono HB4.out.size)); have HO5 := hide (ho5.mono HB4.out.size); obtain ⟨t1, -⟩ := hx5.cell 1; obtain ⟨t6, -⟩ := hx5.cell 6; clear ho5 hb5 hx5))
 all_goals
   go_wp2
   go_ret
   exact ⟨_, rfl, HO5.out, HB5.out⟩

theorem lastSeq_put (l : List Rec) (r : Rec) : putF (lastSeq l) r.proc r.seq = lastSeq (l ++ [r]) := by
 funext q
 unfold putF
 rw [lastSeq_snoc]

theorem Br.own {w : World} {b : Nat} {cs : Array Value} (h : Br w b cs) {B : Nat} {v : Value} {l : List UInt8} (ho : Own w B v l) : some b ≠ v.ownBlock := by
 rcases ho.2 with ⟨hv, _⟩ | ⟨g, cap, cur, hv, _, hg, _⟩
 · rw [hv]
   intro e
   cases e
 · rw [hv]
   intro e
   have e' : b = g := by simpa [Value.ownBlock] using e
   unfold Br at h
   rw [e', hg] at h
   have h3 : (5 : TypeId) = 66 := by
     injection h with h
     injection h
   exact absurd h3 (by decide)

set_option maxRecDepth 100000 in
set_option maxHeartbeats 4000000 in
theorem blockEncodeB_any (v : Value) (l : List Rec) (w : World) (hr : RdR w v l) :
   Calls Tryz.prog 97 #[v] w fun e w' => EncodedB w l e w' := by
 have HR := hide hr
 have HF := hide (fun W h => blockFitsB_any v l W h)
 obtain ⟨ao, cap, rfl, hlc, hcm, -, -, hao⟩ := hr
 have hml : (l.length : Int) <= 9223372036854775807 := by unfold maxLen at hcm; omega
 have HAO := hide hao
 clear hao hlc hcm
 unfold EncodedB
 by_cases hf : FitsB l
 case neg =>
   simp only [if_neg hf]
   rw [decide_eq_false hf] at HF
   clear hf
   go_enter Tryz.func97, Tryz.ntmps97
   go_wp2_with fail
   refine (HF.out _ HR.out).mono ?_
   rintro e W1 ⟨rfl, hb1⟩
   have HB1 := hide hb1
   clear hb1
   go_wp2
   go_ret2
   exact ⟨_, rfl, Own.nil _ _, HB1.out⟩
 simp only [if_pos hf]
 rw [decide_eq_true hf] at HF
 have h1 : 1 <= l.length := hf.1
 have h2 : l.length <= 256 := hf.2.1
 rcases HAO.out with h0 | ⟨c, off, rfl, hc⟩
 · rw [h0] at h1; simp at h1
 have HAT : Hid (∀ k, k < l.length -> ∀ W, Below w.heap.size w W -> RecAt W c (off + k * 7) (l.getD k zeroR)) := hide (fun k hk W h => (hc k hk).keep (h.block c (hc k hk).lt))
 have HFR : Hid (∀ k, k < l.length -> FitsR (l.getD k zeroR)) := hide (fun k hk => hf.2.2.1 _ (by simp [List.getD, hk]))
 have HFT : Hid (∀ k, ∀ r ∈ l.take k, FitsR r) := hide (fun k r hr => hf.2.2.1 r (List.mem_of_mem_take hr))
 have hh : l.headD zeroR = l.getD 0 zeroR := by cases l <;> simp
 obtain ⟨_, i0, i1, _⟩ := HFR.out 0 h1
 have HEB : Hid (encB l = (Lib.uvarint (l.getD 0 zeroR).idx.toNat ++ Lib.uvarint l.length) ++ encRs [] (l.take l.length)) := hide (by
   unfold encB
   rw [hh, List.take_length, List.append_assoc])
 have HNX := hide (fun k hk => encRs_snoc l k hk)
 have HLN : Hid (∀ k, (encRs [] (l.take k)).length <= 60 * 256) := hide (fun k => by
   have h3 := encRs_len (l.take k) [] (fun r hr => by simp at hr) (HFT.out k)
   have h4 : (l.take k).length <= l.length := by simp; omega
   omega)
 have u1 := uv10' (n := (l.getD 0 zeroR).idx.toNat) (by omega)
 have u2 := uv10' (n := l.length) (by omega)
 have HP1 : Hid (∀ W, Calls Tryz.prog 136 #[.slice none 0 0, .int .i64 (l.getD 0 zeroR).idx] W fun e w' => ∃ v', e = .returned v' ∧ Own w' W.heap.size v' (Lib.uvarint (l.getD 0 zeroR).idx.toNat) ∧ Below W.heap.size W w') := fun W => by
   have h := put_any (.slice none 0 0) [] (l.getD 0 zeroR).idx W (Rd.nil W) (by simp)
   rw [putOf_small i0 (by omega), List.nil_append] at h
   exact h
 have HP2 : Hid (∀ W, Calls Tryz.prog 136 #[.slice none 0 0, .int .i64 (l.length : Int)] W fun e w' => ∃ v', e = .returned v' ∧ Own w' W.heap.size v' (Lib.uvarint l.length) ∧ Below W.heap.size W w') := fun W => by
   have h := put_any (.slice none 0 0) [] (l.length : Int) W (Rd.nil W) (by simp)
   rw [putOf_small (by omega) (by omega), Int.toNat_natCast, List.nil_append] at h
   exact h
 rw [HEB.out]
 have hHl : (Lib.uvarint (l.getD 0 zeroR).idx.toNat ++ Lib.uvarint l.length).length <= 20 := by rw [List.length_append]; omega
 have hc00 := (HAT.out 0 h1)
 have HC0 := hide hc00
 have HLS0 := hide hf.2.2.1
 have HCC : Hid (∀ W N v0 v1, N = W.heap.size -> Rd W v0 (Lib.uvarint (l.getD 0 zeroR).idx.toNat) -> Rd W v1 (Lib.uvarint l.length) -> Calls Tryz.prog 135 #[.slice (some ⟨N, 0, none⟩) 2 2] (W.alloc (.cells #[v0, v1] 53)) fun e w' => ∃ v', e = .returned v' ∧ Own w' W.heap.size v' (Lib.uvarint (l.getD 0 zeroR).idx.toNat ++ Lib.uvarint l.length) ∧ Below W.heap.size W w') := fun W N v0 v1 hN h0 h1 => concat2 W N hN v0 v1 _ _ h0 h1 (by omega)
 clear hf hc hh HEB i0 i1 u1 u2 hc00
 generalize (l.getD 0 zeroR) = r0 at *
 generalize Lib.uvarint r0.idx.toNat = A at *
 obtain ⟨A2, hA2⟩ : ∃ A2, A2 = Lib.uvarint l.length := ⟨_, rfl⟩
 rw [<- hA2] at HP2 HCC hHl ⊢
 clear hA2
 obtain ⟨H, hH⟩ : ∃ H, H = A ++ A2 := ⟨_, rfl⟩
 rw [<- hH] at HCC hHl ⊢
 clear hH
 have hmm := @run_makeMap Tryz.prog
 have hpos : (0 : Int) < (l.length : Int) := by omega
 go_enter Tryz.func97, Tryz.ntmps97
 go_wp2_with fail
 refine (HF.out _ HR.out).mono ?_
 rintro e W1 ⟨rfl, hb1⟩
 have HB1 := hide hb1
 have hk0 : W1.cell? ⟨c, off, none⟩ = some (.int .i64 r0.idx) := by
   have h := (HC0.out W1 hb1).1
   rwa [Nat.zero_mul, Nat.add_zero] at h
 clear hb1
 go_wp2_with fail
 refine (HP1.out _).mono ?_
 rintro e W2 ⟨v2, rfl, ho2, hb2⟩
 obtain ⟨a2, n2, rfl, -⟩ := ho2.rd
 have HO2 := hide ho2.rd
 have HB2 := hide (HB1.out.trans (hb2.mono HB1.out.size))
 clear ho2 hb2 hk0 HB1
 go_wp2_with fail
 refine (HP2.out _).mono ?_
 rintro e W3 ⟨v3, rfl, ho3, hb3⟩
 obtain ⟨a3, n3, rfl, -⟩ := ho3.rd
 have HO23 := hide (HO2.out.below hb3 (Nat.le_refl _))
 have HO3 := hide ho3.rd
 have HB3 := hide (HB2.out.trans (hb3.mono HB2.out.size))
 clear ho3 hb3 HO2 HB2 HP1 HP2
 go_wp2_with fail
 refine (HCC.out W3 W3.heap.size _ _ rfl HO23.out HO3.out).mono ?_
 rintro e W4 ⟨v4, rfl, ho4, hb4⟩
 have HO4 := hide (ho4.mono HB3.out.size)
 have HB4 := hide (HB3.out.trans (hb4.mono HB3.out.size))
 clear ho4 hb4 HO23 HO3 HB3 HCC
 have HO5 : Hid (Own (W4.alloc (.map #[] 0)) w.heap.size v4 H) := hide (HO4.out.below ((Below.refl _ _).alloc (Nat.le_refl _) _) (Nat.le_refl _))
 have HM5 := hide (MapI.made W4)
 have HB5 : Hid (Below w.heap.size w (W4.alloc (.map #[] 0))) := hide (HB4.out.alloc HB4.out.size _)
 have HN := hide HB4.out.size
 go_wp2
 go_loopw [4, 24] (fun vo vi wr => ∃ k : Nat, vi = .int .i64 (k : Int) ∧ k <= l.length ∧ Hid (Own wr w.heap.size vo (H ++ encRs [] (l.take k))) ∧ Hid (MapI wr W4.heap.size k (lastSeq (l.take k))) ∧ Hid (Below w.heap.size w wr)) (fun _ vi _ => l.length - (intOf vi).toNat)
 case atStart => exact ⟨0, rfl, Nat.zero_le _, by simpa [encRs] using HO5, HM5, HB5⟩
 case round =>
   clear HO5 HB5 HM5 HO4 HB4
   obtain ⟨k, rfl, hk, hO, hM, hB⟩ := hrel
   by_cases hlt : k < l.length
   case neg =>
     have hke : l.take k = l.take l.length := by rw [List.take_length, List.take_of_length_le (by omega)]
     rw [hke] at hO
     clear hke
     go_wp2
     go_ret2
     exact ⟨_, rfl, hO.out, hB.out⟩
   have hqi : (k : Int) < (l.length : Int) := by omega
   have hfr := HFR.out k hlt
   have HDI : Hid (I64 ((l.getD k zeroR).seq - lastSeq (l.take k) (l.getD k zeroR).proc)) := hide (diff_i64 (HFT.out k) hfr)
   have HRB : Hid (∀ W, Calls Tryz.prog 137 #[recV (l.getD k zeroR), .int .i64 ((l.getD k zeroR).seq - lastSeq (l.take k) (l.getD k zeroR).proc)] W fun e w' => ∃ v', e = .returned v' ∧ Own w' W.heap.size v' (encOne (l.take k) (l.getD k zeroR)) ∧ Below W.heap.size W w') := hide (fun W => recordBytes_any (l.getD k zeroR) ((l.getD k zeroR).seq - lastSeq (l.take k) (l.getD k zeroR).proc) W hfr HDI.out)
   have HPI : Hid (I64 (l.getD k zeroR).proc) := hide (by obtain ⟨_, _, _, _, _, hp0, hp1, _⟩ := hfr; exact ⟨by omega, by omega⟩)
   have HSI : Hid (I64 (l.getD k zeroR).seq) := hide (by obtain ⟨_, _, _, hs0, hs1, _⟩ := hfr; exact ⟨by omega, by omega⟩)
   have HEL := hide (encOne_len (HFT.out k) hfr)
   have HRA := hide (HAT.out k hlt)
   have hLK := HLN.out k
   have HLK : Hid ((H ++ encRs [] (l.take k)).length <= 20000) := hide (by rw [List.length_append]; omega)
   have HNK : Hid (H ++ encRs [] (l.take (k + 1)) = (H ++ encRs [] (l.take k)) ++ encOne (l.take k) (l.getD k zeroR)) := hide (by
     rw [HNX.out k hlt, List.append_assoc])
   have HMK : Hid (putF (lastSeq (l.take k)) (l.getD k zeroR).proc (l.getD k zeroR).seq = lastSeq (l.take (k + 1))) := hide (by
     rw [lastSeq_put, takeR_snoc hlt])
   clear hLK hfr
   obtain ⟨r, hr⟩ : ∃ r, r = l.getD k zeroR := ⟨_, rfl⟩
   rw [<- hr] at HDI HRB HPI HSI HEL HRA HNK HMK
   unfold recV at HRB
   clear hr
   have HLK2 : Hid (∀ X, (Instr.lookup 185 (.map (some W4.heap.size)) (.int .i64 r.proc) false).run Tryz.prog (wr.alloc X) = .ok (.int .i64 (lastSeq (l.take k) r.proc)) (wr.alloc X)) := hide (fun X => (hM.out.below ((Below.refl _ _).alloc (Nat.le_refl _) X) (Nat.le_refl _)).look HPI.out)
   obtain ⟨ls, hls⟩ : ∃ ls, ls = lastSeq (l.take k) r.proc := ⟨_, rfl⟩
   rw [<- hls] at HDI HRB HLK2
   clear hls
   obtain ⟨E, hE⟩ : ∃ E, E = encOne (l.take k) r := ⟨_, rfl⟩
   rw [<- hE] at HRB HEL HNK
   clear hE
   obtain ⟨P0, hP0⟩ : ∃ P0, P0 = H ++ encRs [] (l.take k) := ⟨_, rfl⟩
   rw [<- hP0] at hO HLK HNK
   clear hP0
   have L0 := HLK.out
   have L1 := HEL.out
   have hdw : IntKind.i64.wrap (r.seq - ls) = r.seq - ls := wrap_id HDI.out
   have hlook := HLK2.out
   obtain ⟨c0, c1, c2, c3, c4, c5, c6⟩ := HRA.out wr hB.out
   obtain ⟨oa, oc, rfl⟩ : ∃ oa oc, u4 = .slice oa P0.length oc := by
     obtain ⟨oa, oc, h, -⟩ := hO.out.rd
     exact ⟨oa, oc, h⟩
   have HX0 : Hid (∀ cs, Br (wr.alloc (.cells cs 66)) wr.heap.size cs) := fun cs => heap_alloc_new wr _
   have HBA : Hid (∀ X, Below wr.heap.size wr (wr.alloc X)) := fun X => (Below.refl _ _).alloc (Nat.le_refl _) X
   clear HLK2 HDI HLK HEL
   go_wp2_with fail
   refine (HRB.out _).mono ?_
   rintro e W5 ⟨v5, rfl, ho5, hb5⟩
   obtain ⟨a5, n5, rfl, -⟩ := ho5.rd
   have hb05 : Below wr.heap.size wr W5 := (HBA.out _).trans (hb5.mono (HBA.out _).size)
   have HR5 := hide ho5.rd
   have HO5 := hide (hO.out.below hb05 (Nat.le_refl _))
   have HM5 := hide (hM.out.below hb05 (Nat.le_refl _))
   have HX5 : Hid (Br W5 wr.heap.size _) := hide ((HX0.out _).below hb5 (Nat.le_refl _))
   have HB5 := hide (hB.out.trans (hb05.mono hB.out.size))
   have HSZ := hide HB5.out.size
   clear ho5 hb5 hb05 hO hM hB HX0 HBA c0 c1 c2 c3 c4 c5 c6 hlook HRB HRA
   go_wp2_with (at_builtin; refine wpList_append_rdg _ rfl _ _ rfl w.heap.size _ P0 rfl HO5.out _ E rfl HR5.out (by omega) HSZ.out ?_)
   intro v6 W6 ho6 hg6
   rw [<- HNK.out] at ho6
   have HO6 := hide ho6
   have HX6 : Hid (Br W6 wr.heap.size _) := hide ((hg6.block _ HX5.out.lt (HX5.out.own HO5.out)).trans HX5.out)
   have HM6 := hide (HM5.out.keep (hg6.block _ HM5.out.lt (by
     rcases HM5.out.own HO5.out with h | h
     · rw [h]; exact fun e => by cases e
     · exact fun e => h e.symm)))
   have HB6 := hide (HB5.out.grown hg6 HSZ.out (fun j hj => by
     rcases HO5.out.2 with ⟨hv, _⟩ | ⟨g, cap, cur, hv, hbg, _⟩
     · rw [hv] at hj; cases hj
     · rw [hv] at hj
       have e' : g = j := by simpa [Value.ownBlock] using hj
       omega))
   clear ho6 hg6 HO5 HX5 HM5 HB5 HSZ HR5
   obtain ⟨W7, hrun, hm7, hg7⟩ := HM6.out.put HPI.out HSI.out (by omega)
   rw [HMK.out] at hm7
   have HM7 := hide hm7
   have HO7 : Hid (Own W7 w.heap.size v6 (H ++ encRs [] (l.take (k + 1)))) := hide (World.ownsRow.kept HO6.out hg7 (HM6.out.own HO6.out))
   have HB7 := hide (HB6.out.grown hg7 HB6.out.size (fun j hj => by cases hj; exact HN.out))
   obtain ⟨q1, -⟩ := HX6.out.cell 1
   obtain ⟨q2, -⟩ := HX6.out.cell 2
   clear hm7 hg7 HM6 HO6 HB6 HX6
   go_wp2
   go_roundw
   case rel => exact ⟨k + 1, by go_num, by omega, HO7, HM7, HB7⟩
   case measure => simp [intOf]; omega

end Go.Proofs.YtpopbandpnaicaaGreatDoor

