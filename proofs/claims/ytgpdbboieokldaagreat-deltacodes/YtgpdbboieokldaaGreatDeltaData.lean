/- Contract of delta: dataOf. -/
import Derived.Test.YtgpdbboieokldaaGreatDeltaPut
import Derived.Test.YtgpdbboieokldaaGreatPack5
import Derived.Deep.RegionHeld2
namespace Go.Proofs.YtgpdbboieokldaaGreat
open Go.RowKit

def fP (n : Int) : List UInt8 := Lib.uvarint n.toNat

def fS (n : Int) : List UInt8 := Lib.uvarint (Lib.zigzag n)

theorem putsL_nums : ∀ l : List Int, putsL fS l = numsL l
  | [] => rfl
  | x :: t => by
    have ih := putsL_nums t
    unfold putsL at ih ⊢
    rw [List.flatMap_cons, ih, numsL]
    rfl

theorem entsL_snocD {t : List Ent} {k : Nat} (h : k < t.length) : entsL (t.take (k + 1)) = entsL (t.take k) ++ entL (t.getD k zeroE) := by
  rw [takeE_snoc h]
  unfold entsL
  rw [List.flatMap_append]
  simp

theorem dataD_parts (d : Delt) (P1 P2 P3 : List UInt8) (h1 : P1 = putsL fP [d.frm, d.upto, d.ahead, d.behind, (d.mid.length : Int)]) (h2 : P2 = P1 ++ putsL fS d.mid) (h3 : P3 = P2 ++ putsL fP [((sealD d : Nat) : Int), (d.tab.length : Int)]) : dataD d = P3 ++ entsL d.tab := by
  rw [h3, h2, h1, putsL_nums]
  unfold dataD tabL putsL fP
  simp

theorem own_lt {w : World} {B : Nat} {v : Value} {l : List UInt8} (h : Own w B v l) : ∀ k, v.ownBlock = some k → B ≤ k ∧ k < w.heap.size := fun k hk => World.ownsRow.lt h k hk

theorem ownAt (n k b c : Nat) (h : (Value.slice (some ⟨b, 0, none⟩) n c).ownBlock = some k) : k = b := by simpa [Value.ownBlock] using h.symm

set_option maxRecDepth 100000 in
set_option maxHeartbeats 8000000 in
theorem dataOf_any (v : Value) (d : Delt) (w : World) (hd : DlV w v d) (hm : MayD d) :
    Calls Tryz.prog 17 #[v] w fun e w' => ∃ v', e = .returned v' ∧ Own w' w.heap.size v' (dataD d) ∧ Below w.heap.size w w' := by
  have egP : ∀ args W, (callFunc 43 args).run Tryz.prog W = .ok (.enter 43 args) W := enters_of Tryz.func43 (by kernel_rfl) rfl
  have egS : ∀ args W, (callFunc 47 args).run Tryz.prog W = .ok (.enter 47 args) W := enters_of Tryz.func47 (by kernel_rfl) rfl
  have HPA : Hid (∀ (B : Nat) (v : Value) (l : List UInt8) (vn : Value) (ns : List Int) (W : World), Own W B v l → B ≤ W.heap.size → RdI W vn ns → (ns = [] ∨ ∀ k, vn.ownBlock = some k → v.ownBlock ≠ some k) → l.length + 10 * ns.length ≤ 1000000 → (∀ n ∈ ns, IdxOk n) → Calls Tryz.prog 46 #[v, .func (.func 43) #[] #[], vn] W fun e w' => ∃ v', e = .returned v' ∧ Own w' B v' (l ++ putsL fP ns) ∧ Mv W w' v v') := hide (fun B v l vn ns W h1 h2 h3 h4 h5 h6 => putAll_any 43 fP B v l vn ns W h1 h2 h3 h4 h5 egP (fun n hn W => by
    have h := put_any (.slice none 0 0) [] n W (Rd.nil W) (by simp)
    rw [putOf_small (h6 n hn).1 (h6 n hn).2, List.nil_append] at h
    exact h) (fun n hn => uv10' (by have := h6 n hn; unfold IdxOk at this; omega)))
  have HSA : Hid (∀ (B : Nat) (v : Value) (l : List UInt8) (vn : Value) (ns : List Int) (W : World), Own W B v l → B ≤ W.heap.size → RdI W vn ns → (ns = [] ∨ ∀ k, vn.ownBlock = some k → v.ownBlock ≠ some k) → l.length + 10 * ns.length ≤ 1000000 → Calls Tryz.prog 46 #[v, .func (.func 47) #[] #[], vn] W fun e w' => ∃ v', e = .returned v' ∧ Own w' B v' (l ++ putsL fS ns) ∧ Mv W w' v v') := hide (fun B v l vn ns W h1 h2 h3 h4 h5 => putAll_any 47 fS B v l vn ns W h1 h2 h3 h4 h5 egS (fun n hn W => by
    have h := putSigned_any (.slice none 0 0) [] n W (Rd.nil W) (by simp) (h3.i64 n hn).1 (h3.i64 n hn).2
    rw [List.nil_append] at h
    exact h) (fun n hn => uv10 (h3.i64 n hn)))
  obtain ⟨k1, k2, k3, k4, k5, k6, ⟨k7, k8⟩, k9, k10⟩ := hm
  have hfew := tabOk_few k10
  have HEN := hide k10.mem
  have hsl : sealD d ≤ 3 := by unfold sealD; split <;> omega
  have HSE := hide (fun W (h : Below w.heap.size w W) => sealNumber_any v d W (hd.below h (Nat.le_refl _)) k7 k8)
  obtain ⟨P1, hP1⟩ : ∃ P1, P1 = putsL fP [d.frm, d.upto, d.ahead, d.behind, (d.mid.length : Int)] := ⟨_, rfl⟩
  obtain ⟨P2, hP2⟩ : ∃ P2, P2 = P1 ++ putsL fS d.mid := ⟨_, rfl⟩
  obtain ⟨P3, hP3⟩ : ∃ P3, P3 = P2 ++ putsL fP [((sealD d : Nat) : Int), (d.tab.length : Int)] := ⟨_, rfl⟩
  have hDD := dataD_parts d P1 P2 P3 hP1 hP2 hP3
  rw [hDD]
  have okm : IdxOk (d.mid.length : Int) := ⟨by omega, by omega⟩
  have okt : IdxOk (d.tab.length : Int) := ⟨by omega, by omega⟩
  have oks : IdxOk ((sealD d : Nat) : Int) := ⟨by omega, by omega⟩
  have hok1 : ∀ n ∈ [d.frm, d.upto, d.ahead, d.behind, (d.mid.length : Int)], IdxOk n := fun n hn => by
    simp only [List.mem_cons, List.not_mem_nil, or_false] at hn
    rcases hn with rfl | rfl | rfl | rfl | rfl
    · exact k1
    · exact k2
    · exact k3
    · exact k4
    · exact okm
  have hok3 : ∀ n ∈ [((sealD d : Nat) : Int), (d.tab.length : Int)], IdxOk n := fun n hn => by
    simp only [List.mem_cons, List.not_mem_nil, or_false] at hn
    rcases hn with rfl | rfl
    · exact oks
    · exact okt
  have idx_i : ∀ n, IdxOk n → I64 n := fun n h => ⟨by have := h.1; omega, by have := h.2; omega⟩
  have l1 : P1.length ≤ 50 := by
    have h := putsL_len (f := fP) (ns := [d.frm, d.upto, d.ahead, d.behind, (d.mid.length : Int)]) (fun n hn => uv10' (by have := hok1 n hn; unfold IdxOk at this; omega))
    rw [← hP1] at h
    simpa using h
  obtain ⟨ma, mc, ta, tc, rfl, hmid, htab⟩ := hd.shape
  have l2 : P2.length ≤ 1330 := by
    have h := putsL_len (f := fS) (ns := d.mid) (fun n hn => uv10 (hmid.i64 n hn))
    rw [hP2, List.length_append]
    omega
  have l3 : P3.length ≤ 1350 := by
    have h := putsL_len (f := fP) (ns := [((sealD d : Nat) : Int), (d.tab.length : Int)]) (fun n hn => uv10' (by have := hok3 n hn; unfold IdxOk at this; omega))
    have h2 : (putsL fP [((sealD d : Nat) : Int), (d.tab.length : Int)]).length ≤ 20 := by simpa using h
    rw [hP3, List.length_append]
    omega
  have HC1 : Hid (∀ (W : World) (N : Nat), N = W.heap.size → Calls Tryz.prog 46 #[.slice none 0 0, .func (.func 43) #[] #[], .slice (some ⟨N, 0, none⟩) 5 5] (W.alloc (.cells #[.int .i64 d.frm, .int .i64 d.upto, .int .i64 d.ahead, .int .i64 d.behind, .int .i64 (d.mid.length : Int)] 3)) fun e w' => ∃ v', e = .returned v' ∧ Own w' W.heap.size v' P1 ∧ Below W.heap.size W w') := hide (fun W N hN => by
    have h := HPA.out W.heap.size (.slice none 0 0) [] (.slice (some ⟨N, 0, none⟩) 5 5) [d.frm, d.upto, d.ahead, d.behind, (d.mid.length : Int)] (W.alloc (.cells #[.int .i64 d.frm, .int .i64 d.upto, .int .i64 d.ahead, .int .i64 d.behind, .int .i64 (d.mid.length : Int)] 3)) (Own.nil _ _) (by simp) (rdI_built W N hN _ (fun n hn => idx_i n (hok1 n hn)) (by simp) _ rfl 5 rfl) (.inr fun k _ => by simp [Value.ownBlock]) (by simp) hok1
    rw [List.nil_append, ← hP1] at h
    refine h.mono ?_
    rintro e w' ⟨v', rfl, h1, h2⟩
    exact ⟨v', rfl, h1, ((Below.refl _ _).alloc (Nat.le_refl _) _).trans (h2.belowB (Own.nil _ _) (by simp))⟩)
  have HC2 : Hid (∀ (W : World) (B : Nat) (v : Value), w.heap.size ≤ B → B ≤ W.heap.size → Own W B v P1 → Below w.heap.size w W → Calls Tryz.prog 46 #[v, .func (.func 47) #[] #[], .slice ma d.mid.length mc] W fun e w' => ∃ v', e = .returned v' ∧ Own w' B v' P2 ∧ Below B W w') := hide (fun W B v h1 h2 h3 h4 => by
    have h := HSA.out B v P1 (.slice ma d.mid.length mc) d.mid W h3 h2 (hmid.below h4 (Nat.le_refl _)) (hmid.old.imp id (fun h k hk e => by have := h k hk; have := own_lt h3 k e; omega)) (by omega)
    rw [← hP2] at h
    refine h.mono ?_
    rintro e w' ⟨v', rfl, h5, h6⟩
    exact ⟨v', rfl, h5, h6.belowB h3 h2⟩)
  have HC3 : Hid (∀ (W : World) (B N : Nat) (v : Value), N = W.heap.size → B ≤ W.heap.size → Own W B v P2 → Calls Tryz.prog 46 #[v, .func (.func 43) #[] #[], .slice (some ⟨N, 0, none⟩) 2 2] (W.alloc (.cells #[.int .i64 ((sealD d : Nat) : Int), .int .i64 (d.tab.length : Int)] 3)) fun e w' => ∃ v', e = .returned v' ∧ Own w' B v' P3 ∧ Below B W w') := hide (fun W B N v hN h2 h3 => by
    have hal : Below W.heap.size W (W.alloc (.cells #[.int .i64 ((sealD d : Nat) : Int), .int .i64 (d.tab.length : Int)] 3)) := (Below.refl _ _).alloc (Nat.le_refl _) _
    have h3' := h3.below hal (Nat.le_refl _)
    have h := HPA.out B v P2 (.slice (some ⟨N, 0, none⟩) 2 2) [((sealD d : Nat) : Int), (d.tab.length : Int)] _ h3' (Nat.le_trans h2 hal.size) (rdI_built W N hN _ (fun n hn => idx_i n (hok3 n hn)) (by simp) _ rfl 2 rfl) (.inr fun k hk e => by have := ownAt _ _ _ _ hk; have := own_lt h3 k e; omega) (by simp; omega) hok3
    rw [← hP3] at h
    refine h.mono ?_
    rintro e w' ⟨v', rfl, h5, h6⟩
    exact ⟨v', rfl, h5, (hal.mono h2).trans (h6.belowB h3' (Nat.le_trans h2 hal.size))⟩)
  have HC4 : Hid (∀ (e : Ent) (W : World) (B N : Nat) (v : Value) (P : List UInt8), EntOk e → P.length ≤ 5000 → N = W.heap.size → B ≤ W.heap.size → Own W B v P → Calls Tryz.prog 46 #[v, .func (.func 43) #[] #[], .slice (some ⟨N, 0, none⟩) 2 2] (W.alloc (.cells #[.int .i64 e.proc, .int .i64 e.seq] 3)) fun x w' => ∃ v', x = .returned v' ∧ Own w' B v' (P ++ putsL fP [e.proc, e.seq]) ∧ Below B W w' ∧ (∀ k, k < W.heap.size → v.ownBlock ≠ some k → w'.heap[k]? = W.heap[k]?)) := hide (fun e W B N v P he hP hN h2 h3 => by
    have hal : Below W.heap.size W (W.alloc (.cells #[.int .i64 e.proc, .int .i64 e.seq] 3)) := (Below.refl _ _).alloc (Nat.le_refl _) _
    have h3' := h3.below hal (Nat.le_refl _)
    have hoe : ∀ n ∈ [e.proc, e.seq], IdxOk n := fun n hn => by
      obtain ⟨e1, e2, e3, e4, -⟩ := he
      simp only [List.mem_cons, List.not_mem_nil, or_false] at hn
      rcases hn with rfl | rfl
      · exact ⟨e1, by omega⟩
      · exact ⟨e3, e4⟩
    have h := HPA.out B v P (.slice (some ⟨N, 0, none⟩) 2 2) [e.proc, e.seq] _ h3' (Nat.le_trans h2 hal.size) (rdI_built W N hN _ (fun n hn => idx_i n (hoe n hn)) (by simp) _ rfl 2 rfl) (.inr fun k hk e => by have := ownAt _ _ _ _ hk; have := own_lt h3 k e; omega) (by simp; omega) hoe
    refine h.mono ?_
    rintro x w' ⟨v', rfl, h5, h6⟩
    exact ⟨v', rfl, h5, (hal.mono h2).trans (h6.belowB h3' (Nat.le_trans h2 hal.size)), fun k hk hne => (h6.grown.block k (Nat.lt_of_lt_of_le hk hal.size) (fun e => hne e.symm)).trans (hal.block k hk)⟩)
  have HC5 : Hid (∀ (n : Int) (W : World) (B N : Nat) (v : Value) (P : List UInt8), I64 n → P.length ≤ 5000 → N = W.heap.size → B ≤ W.heap.size → Own W B v P → Calls Tryz.prog 46 #[v, .func (.func 47) #[] #[], .slice (some ⟨N, 0, none⟩) 1 1] (W.alloc (.cells #[.int .i64 n] 3)) fun x w' => ∃ v', x = .returned v' ∧ Own w' B v' (P ++ putsL fS [n]) ∧ Below B W w') := hide (fun n W B N v P hn hP hN h2 h3 => by
    have hal : Below W.heap.size W (W.alloc (.cells #[.int .i64 n] 3)) := (Below.refl _ _).alloc (Nat.le_refl _) _
    have h3' := h3.below hal (Nat.le_refl _)
    have h := HSA.out B v P (.slice (some ⟨N, 0, none⟩) 1 1) [n] _ h3' (Nat.le_trans h2 hal.size) (rdI_built W N hN _ (fun m hm => by rw [List.mem_singleton.1 hm]; exact hn) (by simp) _ rfl 1 rfl) (.inr fun k hk e => by have := ownAt _ _ _ _ hk; have := own_lt h3 k e; omega) (by simp; omega)
    refine h.mono ?_
    rintro x w' ⟨v', rfl, h5, h6⟩
    exact ⟨v', rfl, h5, (hal.mono h2).trans (h6.belowB h3' (Nat.le_trans h2 hal.size))⟩)
  have HES : Hid (∀ k, k < d.tab.length → ∀ P, P = P3 ++ entsL (d.tab.take k) → (P ++ putsL fP [(d.tab.getD k zeroE).proc, (d.tab.getD k zeroE).seq]) ++ putsL fS [(d.tab.getD k zeroE).resp] = P3 ++ entsL (d.tab.take (k + 1))) := hide (fun k hk P hP => by
    rw [entsL_snocD hk, hP]
    unfold entL putsL fP fS
    simp)
  have HEL : Hid (∀ k, (entsL (d.tab.take k)).length ≤ 1950) := hide (fun k => by
    have h := entsL_le (d.tab.take k) (fun e he => HEN.out e (List.mem_of_mem_take he))
    rw [List.length_take] at h
    omega)
  obtain ⟨_, _, htv, htl, htm, -, -, hta⟩ := id htab
  simp only [Value.slice.injEq] at htv
  obtain ⟨rfl, -, rfl⟩ := htv
  have HTA := hide hta
  obtain ⟨W0, hW0⟩ : ∃ W0, W0 = w.alloc (.cells #[.int .i64 d.frm, .int .i64 d.upto, .int .i64 d.ahead, .int .i64 d.behind, .slice ma d.mid.length mc, .bool d.shut, .int .i64 d.eng, .slice ta d.tab.length tc] 25) := ⟨_, rfl⟩
  have HX0 : Hid (Bd W0 w.heap.size #[.int .i64 d.frm, .int .i64 d.upto, .int .i64 d.ahead, .int .i64 d.behind, .slice ma d.mid.length mc, .bool d.shut, .int .i64 d.eng, .slice ta d.tab.length tc]) := hide (by rw [hW0]; exact heap_alloc_new w _)
  have HB0 : Hid (Below w.heap.size w W0) := hide (by rw [hW0]; exact (Below.refl _ _).alloc (Nat.le_refl _) _)
  have HW0 := hide hW0
  have hti : (d.tab.length : Int) ≤ 65 := by omega
  have hmi : (d.mid.length : Int) ≤ 128 := by omega
  clear hW0 hDD hP1 hP2 hP3 hok1 hok3 hmid htab hta htl htm k1 k2 k3 k4 k5 k6 k7 k8 k9 k10 okm okt oks idx_i egP egS HPA HSA hd
  generalize sealD d = SN at *
  obtain ⟨fr, up, ah, bh, mid, sh, en, tab⟩ := d
  dsimp only at *
  obtain ⟨⟨p0, p1, p2, p3, p4, p5, p6, p7⟩, -⟩ := HX0.out.all
  go_enter Tryz.func17, Tryz.ntmps17
  go_upto_region 1 with fail
  rw [← HW0.out]
  clear HW0
  go_wp2_with fail
  refine (HC1.out W0 _ rfl).mono ?_
  rintro x W1 ⟨v1, rfl, ho1, hb1⟩
  have HO1 := hide ho1
  have HB1 := hide hb1
  have HX1 := hide (HX0.out.below hb1 (Nat.le_refl _))
  obtain ⟨a1, c1, hv⟩ : ∃ a c, v1 = .slice a P1.length c := by obtain ⟨a, c, h, -⟩ := ho1.rd; exact ⟨a, c, h⟩
  subst hv
  clear ho1 hb1 HC1 p0 p1 p2 p3 p4 p5 p6 p7
  obtain ⟨p4, -⟩ := HX1.out.cell 4
  go_wp2_with fail
  refine (HC2.out W1 W0.heap.size _ HB0.out.size HB1.out.size HO1.out (HB0.out.trans (HB1.out.mono HB0.out.size))).mono ?_
  rintro x W2 ⟨v2, rfl, ho2, hb2⟩
  have HO2 := hide ho2
  have HB2 := hide (HB1.out.trans hb2)
  have HX2 := hide (HX0.out.below HB2.out (Nat.le_refl _))
  obtain ⟨a2, c2, hv⟩ : ∃ a c, v2 = .slice a P2.length c := by obtain ⟨a, c, h, -⟩ := ho2.rd; exact ⟨a, c, h⟩
  subst hv
  clear ho2 hb2 HC2 p4 HO1 HB1 HX1
  have HK : Hid (∀ W, Below W2.heap.size W2 W → W.cell? ⟨w.heap.size, 0, none⟩ = some (.int .i64 fr) ∧ W.cell? ⟨w.heap.size, 1, none⟩ = some (.int .i64 up) ∧ W.cell? ⟨w.heap.size, 2, none⟩ = some (.int .i64 ah) ∧ W.cell? ⟨w.heap.size, 3, none⟩ = some (.int .i64 bh) ∧ W.cell? ⟨w.heap.size, 4, none⟩ = some (.slice ma mid.length mc) ∧ W.cell? ⟨w.heap.size, 5, none⟩ = some (.bool sh) ∧ W.cell? ⟨w.heap.size, 6, none⟩ = some (.int .i64 en) ∧ W.cell? ⟨w.heap.size, 7, none⟩ = some (.slice ta tab.length tc)) := hide (fun W h => (HX2.out.below h (Nat.le_refl _)).all.1)
  have HK4 : Hid (∀ W, Below W0.heap.size W0 W → W.cell? ⟨w.heap.size, 0, none⟩ = some (.int .i64 fr) ∧ W.cell? ⟨w.heap.size, 1, none⟩ = some (.int .i64 up) ∧ W.cell? ⟨w.heap.size, 2, none⟩ = some (.int .i64 ah) ∧ W.cell? ⟨w.heap.size, 3, none⟩ = some (.int .i64 bh) ∧ W.cell? ⟨w.heap.size, 4, none⟩ = some (.slice ma mid.length mc) ∧ W.cell? ⟨w.heap.size, 5, none⟩ = some (.bool sh) ∧ W.cell? ⟨w.heap.size, 6, none⟩ = some (.int .i64 en) ∧ W.cell? ⟨w.heap.size, 7, none⟩ = some (.slice ta tab.length tc)) := hide (fun W h => (HX0.out.below h (Nat.le_refl _)).all.1)
  have HS0 : Hid (Below W2.heap.size W2 W2.drew) := hide ((Below.refl _ _).drew)
  have HW2 : Hid (∀ W, Below W2.heap.size W2 W → Below w.heap.size w W) := hide (fun W h => (HB0.out.trans (HB2.out.mono HB0.out.size)).trans (h.mono (Nat.le_trans HB0.out.size HB2.out.size)))
  have HSC : Hid (∀ W, Below W2.heap.size W2 W → Calls Tryz.prog 48 #[.agg #[.int .i64 fr, .int .i64 up, .int .i64 ah, .int .i64 bh, .slice ma mid.length mc, .bool sh, .int .i64 en, .slice ta tab.length tc]] W fun x w' => ∃ v', x = .returned v' ∧ v' = .int .i64 (SN : Int) ∧ Below W.heap.size W w') := hide (fun W h => by
    refine (HSE.out W (HW2.out W h)).mono ?_
    rintro x w' ⟨rfl, h2⟩
    exact ⟨_, rfl, rfl, h2⟩)
  have HE1 : Hid (∀ args w, (callFunc 48 args).run Tryz.prog w = .ok (.enter 48 args) w) := hide (enters_of Tryz.func48 (by kernel_rfl) rfl)
  have HE2 : Hid (∀ args w, (callFunc 46 args).run Tryz.prog w = .ok (.enter 46 args) w) := hide (enters_of Tryz.func46 (by kernel_rfl) rfl)
  go_upto_region 3 with fail
  go_cut [3] (fun x3 wc => ∃ a c, x3 = .slice a P3.length c ∧ Hid (Own wc W0.heap.size (.slice a P3.length c) P3) ∧ Hid (Below W0.heap.size W0 wc))
  case first =>
    go_region_held2 (fun W => W.cell? ⟨w.heap.size, 0, none⟩ = some (.int .i64 fr) ∧ W.cell? ⟨w.heap.size, 1, none⟩ = some (.int .i64 up) ∧ W.cell? ⟨w.heap.size, 2, none⟩ = some (.int .i64 ah) ∧ W.cell? ⟨w.heap.size, 3, none⟩ = some (.int .i64 bh) ∧ W.cell? ⟨w.heap.size, 4, none⟩ = some (.slice ma mid.length mc) ∧ W.cell? ⟨w.heap.size, 5, none⟩ = some (.bool sh) ∧ W.cell? ⟨w.heap.size, 6, none⟩ = some (.int .i64 en) ∧ W.cell? ⟨w.heap.size, 7, none⟩ = some (.slice ta tab.length tc))
      (first | (with_reducible exact HK.out _ HS0.out) | (with_reducible exact HK4.out _ hbk4) | (with_reducible exact HK.out _ hbk3) | (exact HK.out _ (hbk3.alloc hbk3.size _)))
      (first
        | ((with_reducible refine step_call 48 _ _ rfl rfl #[.agg #[.int .i64 fr, .int .i64 up, .int .i64 ah, .int .i64 bh, .slice ma mid.length mc, .bool sh, .int .i64 en, .slice ta tab.length tc]] (by simp [Act.eval]) HE1.out (HSC.out W2.drew HS0.out) ?_); rintro v3 W3 ⟨rfl, hb3⟩; have hbk3 : Below W2.heap.size W2 W3 := HS0.out.trans hb3; have HO3 := hide (HO2.out.below hbk3 (Nat.le_refl _)); have hs3 : W0.heap.size ≤ W3.heap.size := Nat.le_trans HB2.out.size hbk3.size; clear hb3)
        | ((with_reducible refine step_call 46 _ _ rfl rfl #[.slice a2 P2.length c2, .func (.func 43) #[] #[], .slice (some ⟨W3.heap.size, 0, none⟩) 2 2] (by simp [Act.eval]) HE2.out (HC3.out W3 W0.heap.size _ _ rfl hs3 HO3.out) ?_); rintro v4 W4 ⟨ho4, hb4⟩; have hbk4 : Below W0.heap.size W0 W4 := (HB2.out.trans (hbk3.mono HB2.out.size)).trans hb4; have HO4 := hide ho4; obtain ⟨a4, c4, hv⟩ : ∃ a c, v4 = .slice a P3.length c := (by obtain ⟨a, c, h, -⟩ := ho4.rd; exact ⟨a, c, h⟩); subst hv; clear ho4 hb4))
    all_goals
      go_wp2_with fail
      go_meet
      exact ⟨a4, c4, rfl, HO4, hide hbk4⟩
  case rest =>
    obtain ⟨WC, rfl⟩ : ∃ W, W = wc := ⟨_, rfl⟩
    obtain ⟨a3, c3, rfl, HO3, HB3⟩ := hcut
    clear HK HK4 HS0 HW2 HSC HE1 HE2 HC3 HO2 HB2 HX2 HSE
    have HX3 := hide (HX0.out.below HB3.out (Nat.le_refl _))
    obtain ⟨p7, -⟩ := HX3.out.cell 7
    go_wp2
    go_loopw [3, 34] (fun vo vi wr => ∃ (k : Nat) (P : List UInt8), vi = .int .i64 (k : Int) ∧ k ≤ tab.length ∧ Hid (P = P3 ++ entsL (tab.take k)) ∧ Hid (Own wr W0.heap.size vo P) ∧ Hid (Below W0.heap.size W0 wr)) (fun _ vi _ => tab.length - (intOf vi).toNat)
    case atStart => exact ⟨0, P3, rfl, Nat.zero_le _, hide (by simp [entsL]), HO3, HB3⟩
    case round =>
      clear HO3 HB3 HX3 p7
      obtain ⟨k, P, rfl, hk, hP, hO, hB⟩ := hrel
      obtain ⟨oa, oc, hv⟩ : ∃ a c, u3 = .slice a P.length c := by obtain ⟨a, c, h, -⟩ := hO.out.rd; exact ⟨a, c, h⟩
      subst hv
      by_cases hlt : k < tab.length
      case neg =>
        have hni : ¬ (k : Int) < (tab.length : Int) := by omega
        have HE : Hid (P3 ++ entsL tab = P) := hide (by rw [hP.out, List.take_of_length_le (by omega)])
        go_wp2
        go_ret
        rw [HE.out]
        exact ⟨_, rfl, hO.out.mono HB0.out.size, HB0.out.trans (hB.out.mono HB0.out.size)⟩
      have hki : (k : Int) < (tab.length : Int) := by omega
      rcases HTA.out with h0 | ⟨c, off, rfl, hc⟩
      · rw [h0] at hlt; simp at hlt
      obtain ⟨c0, c1', c2'⟩ := (hc k hlt).keep ((HB0.out.trans (hB.out.mono HB0.out.size)).block c (hc k hlt).lt)
      have hoe : EntOk (tab.getD k zeroE) := HEN.out _ (by simp [List.getD, hlt])
      have hri : I64 (tab.getD k zeroE).resp := (entOk_small hoe).2.2.1
      have HNX := hide (HES.out k hlt P hP.out)
      have hPl : P.length ≤ 4000 := by rw [hP.out, List.length_append]; have := HEL.out k; omega
      obtain ⟨e, he⟩ : ∃ e, e = tab.getD k zeroE := ⟨_, rfl⟩
      rw [← he] at c0 c1' c2' hoe hri HNX
      have hq2 : (putsL fP [e.proc, e.seq]).length ≤ 20 := by
        have h := putsL_len (f := fP) (ns := [e.proc, e.seq]) (fun n hn => by
          obtain ⟨s1, s2, -⟩ := entOk_small hoe
          simp only [List.mem_cons, List.not_mem_nil, or_false] at hn
          rcases hn with rfl | rfl
          · exact uv10' s1
          · exact uv10' s2)
        simpa using h
      obtain ⟨W4, hW4⟩ : ∃ W4, W4 = wr.alloc (.cells #[.int .i64 e.proc, .int .i64 e.seq, .int .i64 e.resp] 48) := ⟨_, rfl⟩
      have hA4 : Below wr.heap.size wr W4 := by rw [hW4]; exact (Below.refl _ _).alloc (Nat.le_refl _) _
      have hE4 : Be W4 wr.heap.size #[.int .i64 e.proc, .int .i64 e.seq, .int .i64 e.resp] := by rw [hW4]; exact heap_alloc_new wr _
      have HO4 := hide (hO.out.below hA4 (Nat.le_refl _))
      have HB4 := hide (hB.out.trans (hA4.mono hB.out.size))
      have HAP : Hid ((Value.slice oa P.length oc).ownBlock ≠ some wr.heap.size) := hide (fun h => by have := own_lt hO.out _ h; omega)
      have HE4 := hide hE4
      have HW4 := hide hW4
      have HCA := hide (HC4.out e W4 W0.heap.size W4.heap.size _ P hoe (by omega) rfl HB4.out.size HO4.out)
      have HCB := hide (fun W v P h0 h1 h2 => HC5.out e.resp W W0.heap.size W.heap.size v P hri h0 rfl h1 h2)
      obtain ⟨P4, hP4⟩ : ∃ P4, P4 = P ++ putsL fP [e.proc, e.seq] := ⟨_, rfl⟩
      have hP4l : P4.length ≤ 5000 := by rw [hP4, List.length_append]; omega
      rw [← hP4] at HCA HNX
      obtain ⟨q0, -⟩ := hE4.cell 0
      obtain ⟨q1, -⟩ := hE4.cell 1
      obtain ⟨QB, hQB⟩ : ∃ QB, QB = wr.heap.size := ⟨_, rfl⟩
      clear he hc HTA HC4 HC5 HES HEL HEN hA4 hE4 hW4 hP4 hq2 hoe hri hO hB
      obtain ⟨ep, es, er⟩ := e
      dsimp only at *
      go_upto_region 7 with fail
      rw [← HW4.out]
      rw [← hQB] at HE4 HAP q0 q1 ⊢
      clear HW4 hQB c0 c1' c2'
      go_wp2_with fail
      refine HCA.out.mono ?_
      rintro x W5 ⟨v5, rfl, ho5, hb5, hk5⟩
      have HE5 : Hid (Be W5 QB #[.int .i64 ep, .int .i64 es, .int .i64 er]) := hide ((hk5 QB HE4.out.lt HAP.out).trans HE4.out)
      have HO5 := hide ho5
      have HB5 := hide (HB4.out.trans hb5)
      obtain ⟨a5, c5, hv⟩ : ∃ a c, v5 = .slice a P4.length c := by obtain ⟨a, c, h, -⟩ := ho5.rd; exact ⟨a, c, h⟩
      subst hv
      obtain ⟨r2, -⟩ := HE5.out.cell 2
      clear ho5 hb5 hk5 HCA q0 q1 HE4 HO4 HB4
      go_wp2_with fail
      refine (HCB.out W5 _ P4 hP4l HB5.out.size HO5.out).mono ?_
      rintro x W6 ⟨v6, rfl, ho6, hb6⟩
      have HO6 := hide ho6
      have HB6 := hide (HB5.out.trans hb6)
      clear ho6 hb6 HCB r2
      go_wp2
      go_roundw
      case rel => exact ⟨k + 1, P4 ++ putsL fS [er], by go_num, by omega, HNX, HO6, HB6⟩
      case measure => simp [intOf]; omega

end Go.Proofs.YtgpdbboieokldaaGreat
