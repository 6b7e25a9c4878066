/- Contract of snapshot: Encode. -/
import Derived.Test.YtanmjihiceibbaaSnapEncB
import Derived.Test.YtanmjihiceibbaaSnapEncC
import Derived.Test.YtanmjihiceibbaaSnapOwnA
import Derived.Test.YtanmjihiceibbaaRef09D
import Derived.Test.YtanmjihiceibbaaFrameOwn
namespace Go.Proofs.Ytanmjihiceibbaa
open Go.RowKit

theorem ownsRow_below {w w' : World} {B B' : Nat} {e : TypeId} {k : Nat} {v : Value} {n : Nat} {xs : List Value} (h : w.ownsRow B e k v n xs) (hb : Below B' w w') (hB : w.heap.size ≤ B') : w'.ownsRow B e k v n xs := by
  obtain ⟨h1, h2⟩ := h
  refine ⟨h1, ?_⟩
  rcases h2 with h2 | ⟨g, cap, cur, hv, hbg, hg, r⟩
  · exact .inl h2
  · have hlt : g < w.heap.size := (Array.getElem?_eq_some_iff.1 hg).1
    exact .inr ⟨g, cap, cur, hv, hbg, by rw [hb.block g (by omega)]; exact hg, r⟩

theorem framesOf_next (P : List (List UInt8)) (q : Nat) (hq : q < P.length) : framesOf (P.take (q + 1)) = framesOf (P.take q) ++ frameOf (P.getD q []) := by
  have e1 : P.take (q + 1) = P.take q ++ [P.getD q []] := by
    rw [List.take_add_one, List.getElem?_eq_getElem hq]
    simp [List.getD, hq]
  rw [e1, framesOf_app, framesOf_cons]
  simp [framesOf]

theorem framesOf_take_le (P : List (List UInt8)) (q : Nat) : (framesOf (P.take q)).length ≤ (framesOf P).length := by
  have h : framesOf P = framesOf (P.take q) ++ framesOf (P.drop q) := by rw [← framesOf_app, List.take_append_drop]
  rw [h, List.length_append]
  omega

theorem partsN_cons (s : Snap) : partsN s = maniN s.idx.toNat (wholeN s) :: pieces (wholeN s) := rfl

theorem wholeN_ne (s : Snap) : wholeN s ≠ [] := by
  unfold wholeN
  intro h
  have h2 := (List.append_eq_nil_iff.1 h).1
  have h3 := congrArg List.length h2
  have := uv_ne (encS s.st).length
  rw [List.length_nil] at h3
  omega

set_option maxRecDepth 100000 in
set_option maxHeartbeats 4000000 in
theorem encodeN_any (v : Value) (s : Snap) (w : World) (hs : SnV w v s) :
    Calls Try.prog 9 #[v] w fun e w' => EncodedN w s e w' := by
  have HSV := hide hs
  obtain ⟨vl, vt, rfl, hl, hk, he, ht, hi⟩ := hs
  obtain ⟨la, lc, hlv, -⟩ := id hl
  obtain ⟨ta, tc, htv⟩ := ht.shape
  subst hlv htv
  have HMY := hide (fun W (h : Below w.heap.size w W) => mayN_any _ s W (HSV.out.below h (Nat.le_refl _)))
  obtain ⟨W0, hW0⟩ : ∃ W0, W0 = w.alloc (.cells #[.int .i64 s.idx, .int .i64 s.st.kind, .slice la s.st.L.length lc, .bool s.st.shut, .int .i64 s.st.eng, .slice ta s.tab.length tc] 27) := ⟨_, rfl⟩
  have HB0 : Hid (Below w.heap.size w W0) := hide (by rw [hW0]; exact (Below.refl _ _).alloc (Nat.le_refl _) _)
  have HX0 : Hid (Bn W0 w.heap.size #[.int .i64 s.idx, .int .i64 s.st.kind, .slice la s.st.L.length lc, .bool s.st.shut, .int .i64 s.st.eng, .slice ta s.tab.length tc]) := hide (by rw [hW0]; exact heap_alloc_new w _)
  obtain ⟨p0, -⟩ := HX0.out.cell 0
  obtain ⟨p1, -⟩ := HX0.out.cell 1
  obtain ⟨p2, -⟩ := HX0.out.cell 2
  obtain ⟨p3, -⟩ := HX0.out.cell 3
  obtain ⟨p4, -⟩ := HX0.out.cell 4
  obtain ⟨p5, -⟩ := HX0.out.cell 5
  unfold EncodedN
  clear hl hk he ht hi
  by_cases hm : MayN s
  case neg =>
    rw [if_neg hm, if_neg hm]
    rw [decide_eq_false hm] at HMY
    clear hm
    go_enter Try.func9, Try.ntmps9
    go_upto_region 1 with fail
    rw [← hW0]
    clear hW0
    go_wp2_with fail
    refine (HMY.out _ HB0.out).mono ?_
    rintro x W1 ⟨rfl, hb1⟩
    have HB1 := hide (HB0.out.trans (hb1.mono HB0.out.size))
    clear hb1
    go_wp2
    go_ret2
    exact ⟨_, rfl, Own.nil _ _, HB1.out⟩
  rw [if_pos hm, if_pos hm]
  rw [decide_eq_true hm] at HMY
  have HWO := hide (fun W (h : Below w.heap.size w W) => wholeOf_any _ s W (HSV.out.below h (Nat.le_refl _)) hm)
  have hwl := wholeN_le hm
  have hidx := hm.1
  have HMO := hide (fun v1 W h => manifestOf_any s.idx v1 (wholeN s) W h)
  have HDA := hide (fun W => data_any s.idx ((wholeN s).length : Int) (crcMore 0 (wholeN s)) W hidx ⟨by omega, by omega⟩ (crc_lt _))
  rw [Int.toNat_natCast, maniD_eq] at HDA
  have HCH := hide (fun v1 W h => chunks_any v1 (wholeN s) W h (by omega))
  have HPC : Hid (partsN s = maniN s.idx.toNat (wholeN s) :: pieces (wholeN s)) := hide (partsN_cons s)
  have HPL : Hid (∀ x ∈ partsN s, x.length ≤ 1048576) := hide (partsN_len hm)
  have HEN : Hid ((framesOf (partsN s)).length ≤ 80000) := hide (encN_len hm)
  have HEQ : Hid (encN s = framesOf (partsN s)) := hide rfl
  rw [HEQ.out]
  have HNE : Hid (0 < (pieces (wholeN s)).length ∧ (pieces (wholeN s)).length ≤ 5000) := hide (by
    constructor
    · rw [pieces_cons (wholeN_ne s)]
      simp
    · have h1 := framesOf_take_le (partsN s) (partsN s).length
      have h2 : ∀ (L : List (List UInt8)), (∀ x ∈ L, 1 ≤ x.length) → L.length ≤ L.flatten.length := fun L hL => by
        induction L with
        | nil => simp
        | cons x t ih =>
          have h3 := hL x (by simp)
          have h4 := ih (fun y hy => hL y (by simp [hy]))
          rw [List.length_cons, List.flatten_cons, List.length_append]
          omega
      have h3 := h2 (pieces (wholeN s)) (fun x hx => (pieces_mem _ _ x (Nat.le_refl _) hx).2)
      rw [pieces_flat _ _ (Nat.le_refl _)] at h3
      omega)
  generalize wholeN s = WH at *
  generalize maniN s.idx.toNat WH = MN at *
  generalize pieces WH = PW at *
  generalize crcMore 0 WH = CR at *
  obtain ⟨PT, hPT⟩ : ∃ PT, PT = partsN s := ⟨_, rfl⟩
  rw [← hPT] at HPC HPL HEN ⊢
  clear hPT HEQ hm
  obtain ⟨CI, hCI⟩ : ∃ CI : Int, CI = (CR : Int) := ⟨_, rfl⟩
  rw [← hCI] at HMO HDA
  clear hCI HSV
  go_enter Try.func9, Try.ntmps9
  go_upto_region 1 with fail
  rw [← hW0]
  clear hW0
  go_wp2_with fail
  refine (HMY.out _ HB0.out).mono ?_
  rintro x W1 ⟨rfl, hb1⟩
  have HB1 := hide (HB0.out.trans (hb1.mono HB0.out.size))
  have HX1 := hide (HX0.out.below hb1 (Nat.le_refl _))
  clear hb1 HMY p0 p1 p2 p3 p4 p5 HX0 HB0
  obtain ⟨p0, -⟩ := HX1.out.cell 0
  obtain ⟨p1, -⟩ := HX1.out.cell 1
  obtain ⟨p2, -⟩ := HX1.out.cell 2
  obtain ⟨p3, -⟩ := HX1.out.cell 3
  obtain ⟨p4, -⟩ := HX1.out.cell 4
  obtain ⟨p5, -⟩ := HX1.out.cell 5
  go_wp2_with fail
  refine (HWO.out _ HB1.out).mono ?_
  rintro x W2 ⟨v2, rfl, ho2, hb2⟩
  have HB2 := hide (HB1.out.trans (hb2.mono HB1.out.size))
  have HX2 := hide (HX1.out.below hb2 (Nat.le_refl _))
  have HO2 := hide ho2.rd
  obtain ⟨a2, c2, hv2⟩ : ∃ a c, v2 = .slice a WH.length c := by obtain ⟨a, c, h, -⟩ := ho2.rd; exact ⟨a, c, h⟩
  subst hv2
  clear ho2 hb2 HWO p0 p1 p2 p3 p4 p5 HX1 HB1
  obtain ⟨p0, -⟩ := HX2.out.cell 0
  go_wp2_with fail
  refine (HMO.out _ _ HO2.out).mono ?_
  rintro x W3 ⟨rfl, hb3⟩
  have HB3 := hide (HB2.out.trans (hb3.mono HB2.out.size))
  have HO3 := hide (HO2.out.below hb3 (Nat.le_refl _))
  clear hb3 HMO HX2 p0 HB2 HO2
  go_wp2_with fail
  refine (HDA.out _).mono ?_
  rintro x W4 ⟨v4, rfl, ho4, hb4⟩
  have HB4 := hide (HB3.out.trans (hb4.mono HB3.out.size))
  have HW4 := hide (HO3.out.below hb4 (Nat.le_refl _))
  have HM4 := hide ho4.rd
  obtain ⟨a4, c4, hv4⟩ : ∃ a c, v4 = .slice a MN.length c := by obtain ⟨a, c, h, -⟩ := ho4.rd; exact ⟨a, c, h⟩
  subst hv4
  clear ho4 hb4 HDA HB3 HO3
  have HA5 : Hid (Below W4.heap.size W4 (W4.alloc (.cells #[.slice a4 MN.length c4] 30))) := hide ((Below.refl _ _).alloc (Nat.le_refl _) _)
  have HO5 : Hid ((W4.alloc (.cells #[.slice a4 MN.length c4] 30)).ownsRow W4.heap.size 30 1 (.slice (some ⟨W4.heap.size, 0, none⟩) 1 1) 1 [.slice a4 MN.length c4]) := hide (World.ownsRow_lit W4 #[.slice a4 MN.length c4] 1 (Nat.le_refl _) (by unfold maxLen; omega) rfl)
  go_wp2_with fail
  refine (HCH.out _ _ (HW4.out.below HA5.out (Nat.le_refl _))).mono ?_
  rintro x W6 ⟨v6, xs, rfl, ho6, hv6, hb6⟩
  have HB6 := hide (HA5.out.trans (hb6.mono HA5.out.size))
  have HO6 := hide (ownsRow_below HO5.out hb6 (Nat.le_refl _))
  have HV6 := hide hv6
  have HS6 := hide ho6
  clear hb6 hv6 HO5 HA5 HCH
  rcases ho6.2 with ⟨-, hn⟩ | ⟨g6, cap6, cur6, hv6, -⟩
  · have := HNE.out
    omega
  subst hv6
  clear ho6
  have hsz6 := HB6.out.size
  have HNE' := HNE.out
  go_wp2_with (at_builtin; refine wpList_append_vals _ rfl _ _ rfl W4.heap.size _ 1 [.slice a4 MN.length c4] rfl HO6.out _ PW.length cap6 xs rfl HV6.out.1 (World.ownsRow.cells HS6.out rfl) HV6.out.one (by omega) hsz6 ?_)
  intro v7 W7 ho7 hb7
  have HB7 := hide (HB6.out.trans hb7)
  have HBW7 := hide (HB4.out.trans (HB7.out.mono HB4.out.size))
  have HM7 := hide (HM4.out.below HB7.out (Nat.le_refl _))
  have HW7 := hide (HW4.out.below HB7.out (Nat.le_refl _))
  have HS7 := hide ho7
  have hPTl : PT.length = 1 + PW.length := by rw [HPC.out, List.length_cons]; omega
  have hPTi : (PT.length : Int) ≤ 100000 := by omega
  have HROW : Hid (∀ q, q < PT.length → ∃ x, ([Value.slice a4 MN.length c4] ++ xs)[q]? = some x ∧ Rd W7 x (PT.getD q [])) := hide (fun q hq => by
    cases q with
    | zero =>
      refine ⟨_, rfl, ?_⟩
      rw [HPC.out]
      exact HM7.out
    | succ q =>
      obtain ⟨x, h1, h2, h3⟩ := HV6.out.2 q (by omega)
      refine ⟨x, by simpa using h1, ?_⟩
      rw [HPC.out]
      exact h3 W7 HW7.out)
  rcases ho7.2 with ⟨-, hn⟩ | ⟨g7, cap7, cur7, hv7, -⟩
  · omega
  subst hv7
  rw [← hPTl] at HS7
  clear ho7 hb7 HM7 HW7 HO6 HV6 HM4 HW4 HB6 HB7 HNE HNE' hsz6 HS6
  have HFN : Hid (∀ q, q < PT.length → framesOf (PT.take (q + 1)) = framesOf (PT.take q) ++ frameOf (PT.getD q [])) := hide (fun q hq => framesOf_next PT q hq)
  have HFL : Hid (∀ q, (framesOf (PT.take q)).length ≤ 80000) := hide (fun q => Nat.le_trans (framesOf_take_le PT q) HEN.out)
  have HPG : Hid (∀ q, q < PT.length → (PT.getD q []).length ≤ 1048576) := hide (fun q hq => HPL.out _ (by rw [show PT.getD q [] = PT[q] by simp [List.getD, hq]]; exact List.getElem_mem hq))
  rw [← hPTl]
  clear hPTl HPC HPL hwl hidx HEN
  go_wp2
  go_loopw [6, 27] (fun vo vi wr => ∃ q : Nat, vi = .int .i64 (q : Int) ∧ q ≤ PT.length ∧ Hid (Own wr W7.heap.size vo (framesOf (PT.take q))) ∧ Hid (Below W7.heap.size W7 wr)) (fun _ vi _ => PT.length - (intOf vi).toNat)
  case atStart => exact ⟨0, rfl, Nat.zero_le _, hide (Own.nil _ _), Below.refl _ _⟩
  case round =>
    obtain ⟨q, rfl, hq, hO, hB⟩ := hrel
    by_cases hlt : q < PT.length
    case neg =>
      obtain rfl : q = PT.length := by omega
      rw [List.take_length] at hO
      go_wp2
      go_ret2
      exact ⟨_, rfl, hO.out.mono HBW7.out.size, HBW7.out.trans (hB.out.mono HBW7.out.size)⟩
    have hqi : (q : Int) < (PT.length : Int) := by omega
    obtain ⟨x, hx1, hx2⟩ := HROW.out q hlt
    have hc7 := World.ownsRow.cells HS7.out (g := g7) rfl q x hx1
    rw [Addr.add_lit] at hc7
    have hcq : wr.cell? ⟨g7, 0 + q, none⟩ = some x := (hB.out.cell (World.block_lt_of_cell? W7 ⟨g7, 0 + q, none⟩ hc7)).trans hc7
    rw [Nat.zero_add] at hcq
    have HRX := hide (hx2.below hB.out (Nat.le_refl _))
    have HEF : Hid (encF (PT.getD q []) = (frameOf (PT.getD q []), 0)) := hide (by
      unfold encF
      rw [if_pos (HPG.out q hlt)])
    have HFQ := hide (HFN.out q hlt)
    have HLQ := hide (HFL.out q)
    have HLN := hide (HFL.out (q + 1))
    have HEC := hide (encode_any x (PT.getD q []) wr HRX.out)
    rw [HEF.out] at HEC
    rw [HFQ.out] at HLN
    dsimp only at HEC
    obtain ⟨xa, xc, hxv⟩ : ∃ a c, x = .slice a (PT.getD q []).length c := by obtain ⟨a, c, h, -⟩ := hx2; exact ⟨a, c, h⟩
    subst hxv
    clear hx1 hx2 hc7 HEF HRX
    generalize frameOf (PT.getD q []) = F at *
    generalize PT.getD q [] = D at *
    obtain ⟨G, hG⟩ : ∃ G, G = framesOf (PT.take q) := ⟨_, rfl⟩
    rw [← hG] at hO HFQ HLQ HLN
    clear hG
    go_wp2_with fail
    refine HEC.out.mono ?_
    rintro e W8 ⟨v8, rfl, ho8, hb8⟩
    have HO8 := hide ho8.rd
    have HOW := hide (hO.out.below hb8 (Nat.le_refl _))
    have HB8 := hide (hB.out.trans (hb8.mono hB.out.size))
    have HSZ := hide HB8.out.size
    have HLT : Hid (G.length + F.length ≤ 70368744177664) := hide (by have := HLN.out; rw [List.length_append] at this; omega)
    clear ho8 hb8 HEC hO hB hcq
    go_wp2_with (at_builtin; refine wpList_append_rd _ rfl _ _ rfl W7.heap.size _ G rfl HOW.out _ F rfl HO8.out HLT.out HSZ.out ?_)
    intro v9 W9 ho9 hb9
    have HO9 := hide ho9
    have HB9 := hide (HB8.out.trans hb9)
    clear ho9 hb9 HOW
    go_wp2
    go_roundw
    case rel => exact ⟨q + 1, by go_num, by omega, hide (by rw [HFQ.out]; exact HO9.out), HB9⟩
    case measure => simp [intOf]; omega

end Go.Proofs.Ytanmjihiceibbaa
