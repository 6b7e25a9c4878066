/- Contract of delta: readData. -/
import Derived.Test.YtgpdbboieokldaaGreatDeltaRead2
import Derived.Deep.RegionHeld2
namespace Go.Proofs.YtgpdbboieokldaaGreat
open Go.RowKit

theorem dgP_i (l : List UInt8) : I64 (dgP l).1 := by
  have : (dec62 l).1 < 4611686018427387904 := by
    rcases dec62_cases l with h | h
    · rw [h]; decide
    · exact h.1
  exact ⟨by show _ ≤ (((dec62 l).1 : Nat) : Int); omega, by show (((dec62 l).1 : Nat) : Int) ≤ _; omega⟩

theorem dgS_i (l : List UInt8) : I64 (dgS l).1 := zag_i64 (dec64_lt l)

theorem two_list {ns : List Nat} (h : ns.length = 2) : ns = [ns.getD 0 0, ns.getD 1 0] := by
  match ns, h with
  | [a, b], _ => rfl

theorem getsL_five {b : List UInt8} {r : List Nat × List UInt8} (h : getsL 5 b = some r) : ∃ n0 n1 n2 n3 n4 : Nat, r.1 = [n0, n1, n2, n3, n4] ∧ n0 < 4611686018427387904 ∧ n1 < 4611686018427387904 ∧ n2 < 4611686018427387904 ∧ n3 < 4611686018427387904 ∧ n4 < 4611686018427387904 := by
  obtain ⟨ns, l⟩ := r
  obtain ⟨g1, -, g3⟩ := getsL_sound 5 b ns l h
  match ns, g1, g3 with
  | [a, b, c, d, e], _, g3 => exact ⟨a, b, c, d, e, rfl, g3 a (by simp), g3 b (by simp), g3 c (by simp), g3 d (by simp), g3 e (by simp)⟩

theorem getsL_pair {b : List UInt8} {r : List Nat × List UInt8} (h : getsL 2 b = some r) : ∃ s m : Nat, r.1 = [s, m] ∧ s < 4611686018427387904 ∧ m < 4611686018427387904 := by
  obtain ⟨ns, l⟩ := r
  obtain ⟨g1, -, g3⟩ := getsL_sound 2 b ns l h
  match ns, g1, g3 with
  | [a, b], _, g3 => exact ⟨a, b, rfl, g3 a (by simp), g3 b (by simp)⟩

theorem getsG_one (dg : List UInt8 → Int × Nat) (b : List UInt8) : getsG dg 1 b = if (dg b).2 = 0 then none else some ([(dg b).1], b.drop (dg b).2) := by
  rw [getsG]
  split
  · rfl
  · rfl

theorem DIn.setAt {w : World} {cs : Array Value} {cn sl et : Int} {vb : Value} : ∀ (ps : List (Nat × Nat)) (ns : List Int) {W : World}, (∀ p ∈ ps, w.heap.size + 1 + 1 + 1 + 1 + 1 < p.1) → DIn w W cs cn sl et vb → DIn w (setAtI W ps ns) cs cn sl et vb
  | [], ns, W, _, h => by cases ns <;> exact h
  | q :: ps, [], W, _, h => h
  | q :: ps, m :: ns, W, hp, h => by
    rw [setAtI]
    exact DIn.setAt ps ns (fun p hh => hp p (by simp [hh])) (h.far (hp q (by simp)) q.2 _)

/-- The box of an entry, some of whose first two numbers are written. -/
theorem box_twoI {W : World} {R : Nat} (h : Be W R #[.int .i64 0, .int .i64 0, .int .i64 0]) (ns : List Int) (hn : ns.length ≤ 2) (hns : ∀ n ∈ ns, I64 n) :
    ∃ x y : Int, Be (setAtI W ([(R, 0), (R, 1)].take ns.length) ns) R #[.int .i64 x, .int .i64 y, .int .i64 0] ∧ I64 x ∧ I64 y := by
  have i0 : I64 0 := i64_small (by decide) (by decide)
  match ns, hn, hns with
  | [], _, _ => exact ⟨0, 0, h, i0, i0⟩
  | [n], _, hns => exact ⟨n, 0, h.set 0 _, hns n (by simp), i0⟩
  | [n, m], _, hns => exact ⟨n, m, (h.set 0 _).set 1 _, hns n (by simp), hns m (by simp)⟩

theorem box_oneI {W : World} {R : Nat} {p q : Int} (h : Be W R #[.int .i64 p, .int .i64 q, .int .i64 0]) (ns : List Int) (hn : ns.length ≤ 1) (hns : ∀ n ∈ ns, I64 n) :
    ∃ z : Int, Be (setAtI W ([(R, 2)].take ns.length) ns) R #[.int .i64 p, .int .i64 q, .int .i64 z] ∧ I64 z ∧ ∀ n, ns = [n] → z = n := by
  match ns, hn, hns with
  | [], _, _ => exact ⟨0, h, i64_small (by decide) (by decide), fun n h => by cases h⟩
  | [n], _, hns => exact ⟨n, h.set 2 _, hns n (by simp), fun m h => by injection h⟩

theorem DIn.moreB {w W W' : World} {cs : Array Value} {cn sl et : Int} {vb : Value} (h : DIn w W cs cn sl et vb) {B : Nat} (hB : w.heap.size + 1 + 1 + 1 + 1 + 1 < B) (hb : Below B W W') : DIn w W' cs cn sl et vb :=
  ⟨(hb.block _ (by omega)).trans h.res, (hb.block _ (by omega)).trans h.box, (hb.block _ (by omega)).trans h.cnt, (hb.block _ (by omega)).trans h.sea, (hb.block _ (by omega)).trans h.ent, (hb.block _ (by omega)).trans h.cap, h.below.trans (hb.mono (by omega))⟩

theorem leftW_at {bb : Nat} {W : World} {a : Option Addr} {n c : Nat} (h : Bv W bb (.slice a n c)) : leftW bb (.bool true) W = n + 1 := by
  unfold leftW
  rw [h.cell.1]

theorem ownAtS (n k b c : Nat) (h : (Value.slice (some ⟨b, 0, none⟩) n c).ownBlock = some k) : k = b := by simpa [Value.ownBlock] using h.symm

theorem drew_heap (X : World) : X.drew.heap = X.heap := rfl

theorem heap_eightD (W : World) (R k : Nat) (hk : k ≠ R) (x0 x1 x2 x3 x4 x5 x6 x7 : Value) : (((((((((W.setCell ⟨R, 0, none⟩ x0).setCell ⟨R, 1, none⟩ x1).setCell ⟨R, 2, none⟩ x2).setCell ⟨R, 3, none⟩ x3).setCell ⟨R, 4, none⟩ x4).setCell ⟨R, 5, none⟩ x5).setCell ⟨R, 6, none⟩ x6).setCell ⟨R, 7, none⟩ x7).drew).heap[k]? = W.heap[k]? := by
  rw [drew_heap]
  rw [Below.heap_setCell _ _ _ _ hk, Below.heap_setCell _ _ _ _ hk, Below.heap_setCell _ _ _ _ hk, Below.heap_setCell _ _ _ _ hk, Below.heap_setCell _ _ _ _ hk, Below.heap_setCell _ _ _ _ hk, Below.heap_setCell _ _ _ _ hk, Below.heap_setCell _ _ _ _ hk]

theorem Bd.eightD {W : World} {D R : Nat} {cs : Array Value} (h : Bd W D cs) (hk : D ≠ R) (x0 x1 x2 x3 x4 x5 x6 x7 : Value) : Bd (((((((((W.setCell ⟨R, 0, none⟩ x0).setCell ⟨R, 1, none⟩ x1).setCell ⟨R, 2, none⟩ x2).setCell ⟨R, 3, none⟩ x3).setCell ⟨R, 4, none⟩ x4).setCell ⟨R, 5, none⟩ x5).setCell ⟨R, 6, none⟩ x6).setCell ⟨R, 7, none⟩ x7).drew) D cs := (heap_eightD W R D hk x0 x1 x2 x3 x4 x5 x6 x7).trans h

theorem Bv.eightD {W : World} {D R : Nat} {v : Value} (h : Bv W D v) (hk : D ≠ R) (x0 x1 x2 x3 x4 x5 x6 x7 : Value) : Bv (((((((((W.setCell ⟨R, 0, none⟩ x0).setCell ⟨R, 1, none⟩ x1).setCell ⟨R, 2, none⟩ x2).setCell ⟨R, 3, none⟩ x3).setCell ⟨R, 4, none⟩ x4).setCell ⟨R, 5, none⟩ x5).setCell ⟨R, 6, none⟩ x6).setCell ⟨R, 7, none⟩ x7).drew) D v := (heap_eightD W R D hk x0 x1 x2 x3 x4 x5 x6 x7).trans h

theorem leftW_not (bb : Nat) (W : World) : leftW bb (.bool false) W = 0 := rfl

set_option linter.unusedSimpArgs false in
set_option maxRecDepth 100000 in
set_option maxHeartbeats 40000000 in
theorem readData_any (v : Value) (b : List UInt8) (w : World) (hr : Rd w v b) (hlim : b.length ≤ 900000) :
    Calls Tryz.prog 23 #[v] w fun e w' => ReadDl w (readD b) e w' := by
  have egP : ∀ args W, (callFunc 57 args).run Tryz.prog W = .ok (.enter 57 args) W := enters_of Tryz.func57 (by kernel_rfl) rfl
  have egS : ∀ args W, (callFunc 61 args).run Tryz.prog W = .ok (.enter 61 args) W := enters_of Tryz.func61 (by kernel_rfl) rfl
  have HRP := hide (fun (W : World) cs cn sl et vk (h : DIn w W cs cn sl et vk) (lk : List UInt8) (hV : ∀ X, Rd X v b → Rd X vk lk) ps hps hlim row hrow NN k hN hk => readAt 57 dgP egP (fun v l W h => get_any v l W h) (fun l => dec62_le l) dgP_i h hr hV ps hps hlim row hrow NN k hN hk)
  have HRS := hide (fun (W : World) cs cn sl et vk (h : DIn w W cs cn sl et vk) (lk : List UInt8) (hV : ∀ X, Rd X v b → Rd X vk lk) ps hps hlim row hrow NN k hN hk => readAt 61 dgS egS (fun v l W h => getSigned_any v l W h) (fun l => dec64_le l) dgS_i h hr hV ps hps hlim row hrow NN k hN hk)
  have HRV := hide hr
  obtain ⟨va, vc, hv⟩ : ∃ a c, v = .slice a b.length c := by obtain ⟨a, c, h, -⟩ := hr; exact ⟨a, c, h⟩
  subst hv
  obtain ⟨W0, hW0⟩ : ∃ W0, W0 = (((((w.alloc (.cells #[.int .i64 0, .int .i64 0, .int .i64 0, .int .i64 0, .slice none 0 0, .bool false, .int .i64 0, .slice none 0 0] 25)).alloc (.cells #[.int .i64 0, .int .i64 0, .int .i64 0, .int .i64 0, .slice none 0 0, .bool false, .int .i64 0, .slice none 0 0] 25)).alloc (.cells #[.int .i64 0] 3)).alloc (.cells #[.int .i64 0] 3)).alloc (.cells #[.int .i64 0] 3)) := ⟨_, rfl⟩
  have hsz : W0.heap.size = w.heap.size + 1 + 1 + 1 + 1 + 1 := by rw [hW0]; exact five_allocs w _ _ _ _ _
  have HDS : Hid (DIn w (W0.alloc (.cells #[.slice va b.length vc] 26)) #[.int .i64 0, .int .i64 0, .int .i64 0, .int .i64 0, .slice none 0 0, .bool false, .int .i64 0, .slice none 0 0] 0 0 0 (.slice va b.length vc)) := hide (by rw [hW0]; exact din_start w (.slice va b.length vc) _ _ _ rfl rfl rfl)
  have HNM := hide (numbersD_any va b.length vc W0)
  rw [hsz] at HNM
  have HW0 := hide hW0
  obtain ⟨RD, hRD⟩ : ∃ RD, RD = readD b := ⟨_, rfl⟩
  rw [← hRD]
  rw [readD_eq] at hRD
  have HRD := hide hRD
  have HG5 := hide (getsG_P 5 b)
  have HGF := hide (fun r h => getsL_five (b := b) (r := r) h)
  have HGB : Hid (∀ r, getsL 5 b = some r → r.2.length ≤ b.length) := hide (fun r h => by
    obtain ⟨-, g2, -⟩ := getsL_sound 5 b r.1 r.2 h
    rw [g2, List.length_append]
    omega)
  clear hRD hW0 hsz hr egP egS
  go_enter Tryz.func23, Tryz.ntmps23
  go_upto_region 3 with fail
  rw [← HW0.out]
  clear HW0
  go_wp2_with fail
  refine HNM.out.mono ?_
  rintro x W1 ⟨rfl, hw1⟩
  rw [← hw1] at HDS
  clear hw1 HNM
  have hp5 : ∀ p ∈ [(w.heap.size + 1, 0), (w.heap.size + 1, 1), (w.heap.size + 1, 2), (w.heap.size + 1, 3), (w.heap.size + 1 + 1, 0)], NumAt W1 p ∧ w.heap.size < p.1 ∧ p.1 ≠ w.heap.size + 1 + 1 + 1 + 1 + 1 := fun p hp => by
    simp only [List.mem_cons, List.not_mem_nil, or_false] at hp
    rcases hp with rfl | rfl | rfl | rfl | rfl
    · exact ⟨⟨⟨0, (HDS.out.box.cell 0).1⟩, (HDS.out.box.cell 0).2⟩, by show _ < w.heap.size + 1; omega, by show w.heap.size + 1 ≠ _; omega⟩
    · exact ⟨⟨⟨0, (HDS.out.box.cell 1).1⟩, (HDS.out.box.cell 1).2⟩, by show _ < w.heap.size + 1; omega, by show w.heap.size + 1 ≠ _; omega⟩
    · exact ⟨⟨⟨0, (HDS.out.box.cell 2).1⟩, (HDS.out.box.cell 2).2⟩, by show _ < w.heap.size + 1; omega, by show w.heap.size + 1 ≠ _; omega⟩
    · exact ⟨⟨⟨0, (HDS.out.box.cell 3).1⟩, (HDS.out.box.cell 3).2⟩, by show _ < w.heap.size + 1; omega, by show w.heap.size + 1 ≠ _; omega⟩
    · exact ⟨⟨⟨0, HDS.out.cnt.cell.1⟩, HDS.out.cnt.cell.2⟩, by show _ < w.heap.size + 1 + 1; omega, by show w.heap.size + 1 + 1 ≠ _; omega⟩
  have HC5 := hide (HRP.out _ _ _ _ _ _ HDS.out b (fun X h => h) [(w.heap.size + 1, 0), (w.heap.size + 1, 1), (w.heap.size + 1, 2), (w.heap.size + 1, 3), (w.heap.size + 1 + 1, 0)] hp5 (by simp) #[.pointer (some ⟨w.heap.size + 1, 0, none⟩), .pointer (some ⟨w.heap.size + 1, 1, none⟩), .pointer (some ⟨w.heap.size + 1, 2, none⟩), .pointer (some ⟨w.heap.size + 1, 3, none⟩), .pointer (some ⟨w.heap.size + 1 + 1, 0, none⟩)] rfl W1.heap.size 5 rfl rfl)
  have HP5 : Hid (∀ p ∈ [(w.heap.size + 1, 0), (w.heap.size + 1, 1), (w.heap.size + 1, 2), (w.heap.size + 1, 3), (w.heap.size + 1 + 1, 0)], w.heap.size < p.1) := hide (fun p hp => (hp5 p hp).2.1)
  have HDA := hide (HDS.out.alloc (.cells #[.pointer (some ⟨w.heap.size + 1, 0, none⟩), .pointer (some ⟨w.heap.size + 1, 1, none⟩), .pointer (some ⟨w.heap.size + 1, 2, none⟩), .pointer (some ⟨w.heap.size + 1, 3, none⟩), .pointer (some ⟨w.heap.size + 1 + 1, 0, none⟩)] 85))
  have e5 : [(w.heap.size + 1, 0), (w.heap.size + 1, 1), (w.heap.size + 1, 2), (w.heap.size + 1, 3), (w.heap.size + 1 + 1, 0)].length = 5 := rfl
  rw [e5, HG5.out] at HC5
  clear hp5 HG5 e5 HDS
  cases hg : getsL 5 b with
  | none =>
    rw [hg] at HRD HC5
    have HF : Hid (RD = none) := hide HRD.out
    go_wp2_with fail
    refine HC5.out.mono ?_
    rintro x W2 ⟨v2, l, ns, rfl, hv2, hs2, hi2, hl2, hb2, ha2⟩
    obtain ⟨hres, hbel⟩ := ReadR.failed HDA.out HP5.out ha2
    have HRES := hide hres
    have HBEL := hide hbel
    clear hv2 hs2 hi2 hl2 hb2 ha2 hres hbel HC5 HDA
    obtain ⟨⟨z0, z1, z2, z3, z4, z5, z6, z7⟩, y0, y1, y2, y3, y4, y5, y6, y7⟩ := HRES.out.all
    go_wp2
    refine bodyPost_ret (v := .tuple #[.agg #[.int .i64 0, .int .i64 0, .int .i64 0, .int .i64 0, .slice none 0 0, .bool false, .int .i64 0, .slice none 0 0], .bool false]) (by simp [results, Tryz.results23, go_sem, z0, z1, z2, z3, z4, z5, z6, z7]) rfl ?_
    exact ReadDl.none HF.out (belowEightE HBEL.out _ (Nat.le_refl _) _ _ _ _ _ _ _ _)
  | some r =>
  obtain ⟨n0, n1, n2, n3, n4, hr1, k0, k1, k2, k3, k4⟩ := HGF.out r hg
  have hlb := HGB.out r hg
  rw [hg] at HRD HC5
  obtain ⟨rn, l⟩ := r
  dsimp only at hr1 hlb
  subst hr1
  have HRD2 : Hid (RD = if 128 < n4 then none else (readL n4 l).bind (fun q => restD n0 n1 n2 n3 q.1 (l.drop q.2))) := hide HRD.out
  clear HRD HGF HGB hg
  go_wp2_with fail
  refine HC5.out.mono ?_
  rintro x W2 ⟨v2, l', ns, rfl, hv2, hs2, hi2, hl2, hb2, ha2⟩
  have hs3 := hs2 _ rfl
  simp only [List.map_cons, List.map_nil, Prod.mk.injEq] at hs3
  obtain ⟨hns, hll⟩ := hs3
  subst hns hll
  have HD2 : Hid (DIn w W2 #[.int .i64 (n0 : Int), .int .i64 (n1 : Int), .int .i64 (n2 : Int), .int .i64 (n3 : Int), .slice none 0 0, .bool false, .int .i64 0, .slice none 0 0] (n4 : Int) 0 0 v2) := hide ((((((HDA.out.setBox 0 (.int .i64 (n0 : Int))).setBox 1 (.int .i64 (n1 : Int))).setBox 2 (.int .i64 (n2 : Int))).setBox 3 (.int .i64 (n3 : Int))).setCnt (n4 : Int)).alike ha2 hb2)
  have HV2 := hide hv2
  obtain ⟨a2, c2, hv⟩ : ∃ a c, v2 = .slice a l.length c := by obtain ⟨a, c, h, -⟩ := hv2 w HRV.out; exact ⟨a, c, h⟩
  subst hv
  have HRES := hide HD2.out.res
  have HBEL := hide HD2.out.below
  clear hv2 hs2 hi2 hl2 hb2 ha2 HC5 HDA HP5
  obtain ⟨cc, cf⟩ := HD2.out.cnt.cell
  by_cases h128 : 128 < n4
  · have HF : Hid (RD = none) := hide (by rw [HRD2.out, if_pos h128])
    have h128i : (128 : Int) < (n4 : Int) := by omega
    obtain ⟨⟨z0, z1, z2, z3, z4, z5, z6, z7⟩, y0, y1, y2, y3, y4, y5, y6, y7⟩ := HRES.out.all
    go_wp2
    refine bodyPost_ret (v := .tuple #[.agg #[.int .i64 0, .int .i64 0, .int .i64 0, .int .i64 0, .slice none 0 0, .bool false, .int .i64 0, .slice none 0 0], .bool false]) (by simp [results, Tryz.results23, go_sem, z0, z1, z2, z3, z4, z5, z6, z7]) rfl ?_
    exact ReadDl.none HF.out (belowEightE HBEL.out _ (Nat.le_refl _) _ _ _ _ _ _ _ _)

  have h128i : ¬ (128 : Int) < (n4 : Int) := by omega
  have HRD3 : Hid (RD = (readL n4 l).bind (fun q => restD n0 n1 n2 n3 q.1 (l.drop q.2))) := hide (by rw [HRD2.out, if_neg h128])
  have hmk := fun W => run_makeI W n4 (by omega)
  obtain ⟨M, hM⟩ : ∃ M, M = W2.heap.size := ⟨_, rfl⟩
  obtain ⟨W3, hW3⟩ : ∃ W3, W3 = (W2.alloc (.cells (intCells (List.replicate n4 0)).toArray 3)).setCell ⟨w.heap.size + 1, 4, none⟩ (.slice (some ⟨W2.heap.size, 0, none⟩) n4 n4) := ⟨_, rfl⟩
  have HD3 : Hid (DIn w W3 #[.int .i64 (n0 : Int), .int .i64 (n1 : Int), .int .i64 (n2 : Int), .int .i64 (n3 : Int), .slice (some ⟨M, 0, none⟩) n4 n4, .bool false, .int .i64 0, .slice none 0 0] (n4 : Int) 0 0 (.slice a2 l.length c2)) := hide (by rw [hW3, hM]; exact (HD2.out.alloc _).setBox 4 _)
  have hMlt : w.heap.size + 1 + 1 + 1 + 1 + 1 < M := by rw [hM]; exact HD2.out.lt
  have HR3 : Hid (RowI W3 M (List.replicate n4 0)) := hide (by
    rw [hW3]
    refine (Below.heap_setCell _ _ _ _ (by show M ≠ w.heap.size + 1; omega)).trans ?_
    rw [hM]
    exact heap_alloc_new W2 _)
  have m4 := fun X => ((HD2.out.alloc X).box.cell 4).1
  have f4 := fun X => ((HD2.out.alloc X).box.cell 4).2
  have HM := hide hM
  have HW3 := hide hW3
  clear hW3 hM HRD2 h128 HRES HBEL
  go_upto_region 7 with fail
  rw [← HW3.out]
  clear HW3 m4 f4 cc cf HD2 HM hmk
  obtain ⟨GS, hGS⟩ : ∃ GS, GS = getsG dgS n4 l := ⟨_, rfl⟩
  have HGS : Hid (GS = (readL n4 l).map (fun r => (r.1, l.drop r.2))) := hide (by rw [hGS, getsG_S])
  have HG0 : Hid (GS = (getsG dgS (n4 - 0) l).map (fun r => ([] ++ r.1, r.2))) := hide (by
    rw [hGS, Nat.sub_zero]
    cases getsG dgS n4 l <;> rfl)
  have HRD4 : Hid (RD = GS.bind (fun r => restD n0 n1 n2 n3 r.1 r.2)) := hide (by
    rw [HRD3.out, HGS.out]
    cases readL n4 l <;> rfl)
  clear hGS HGS HRD3
  obtain ⟨m4, -⟩ := HD3.out.box.cell 4
  have hk4i : (n4 : Int) ≤ 128 := by omega
  have HN4 : Hid (n0 < 4611686018427387904 ∧ n1 < 4611686018427387904 ∧ n2 < 4611686018427387904 ∧ n3 < 4611686018427387904) := hide ⟨k0, k1, k2, k3⟩
  clear k0 k1 k2 k3 k4
  go_wp2
  go_loopw [37] (fun vi wr => ∃ (k : Nat) (xs : List Int) (lk : List UInt8) (ak : Option Addr) (ck : Nat), vi = .int .i64 (k : Int) ∧ k ≤ n4 ∧ Hid (xs.length = k) ∧ Hid (lk.length ≤ b.length) ∧ Hid (DIn w wr #[.int .i64 (n0 : Int), .int .i64 (n1 : Int), .int .i64 (n2 : Int), .int .i64 (n3 : Int), .slice (some ⟨M, 0, none⟩) n4 n4, .bool false, .int .i64 0, .slice none 0 0] (n4 : Int) 0 0 (.slice ak lk.length ck)) ∧ Hid (RowI wr M (xs ++ List.replicate (n4 - k) 0)) ∧ Hid (∀ X, Rd X (.slice va b.length vc) b → Rd X (.slice ak lk.length ck) lk) ∧ Hid (∀ x ∈ xs, I64 x) ∧ Hid (GS = (getsG dgS (n4 - k) lk).map (fun r => (xs ++ r.1, r.2)))) (fun vi _ => n4 - (intOf vi).toNat)
  case atStart => exact ⟨0, [], l, a2, c2, rfl, Nat.zero_le _, rfl, hide hlb, HD3, hide (by simpa using HR3.out), HV2, hide (fun x h => by simp at h), HG0⟩
  case round =>
    clear HG0 HD3 HR3 HV2 m4
    obtain ⟨k, xs, lk, ak, ck, rfl, hk, hxs, hlk, hD, hRow, hV, hXI, hGS⟩ := hrel
    by_cases hlt : k < n4
    case pos =>
      have hki : (k : Int) < (n4 : Int) := by omega
      have hps1 : ∀ p ∈ [(M, k)], NumAt wr p ∧ w.heap.size < p.1 ∧ p.1 ≠ w.heap.size + 1 + 1 + 1 + 1 + 1 := fun p hp => by
        rw [List.mem_singleton.1 hp]
        exact ⟨hRow.out.num k (by rw [List.length_append, List.length_replicate, hxs.out]; omega), by show _ < M; omega, by show M ≠ _; omega⟩
      have HC1 := hide (HRS.out _ _ _ _ _ _ hD.out lk hV.out [(M, k)] hps1 (by simp) #[.pointer (some ⟨M, k, none⟩)] rfl wr.heap.size 1 rfl rfl)
      have HP1 : Hid (∀ p ∈ [(M, k)], w.heap.size < p.1) := hide (fun p hp => (hps1 p hp).2.1)
      have HDA := hide (hD.out.alloc (.cells #[.pointer (some ⟨M, k, none⟩)] 85))
      have HRA : Hid (RowI (wr.alloc (.cells #[.pointer (some ⟨M, k, none⟩)] 85)) M (xs ++ List.replicate (n4 - k) 0)) := hide (hRow.out.keep (Below.heap_alloc _ _ _ hRow.out.lt))
      have e1 : [(M, k)].length = 1 := rfl
      rw [e1, getsG_one] at HC1
      have HST : Hid (n4 - k = (n4 - (k + 1)) + 1) := hide (by omega)
      have HG1 := hide (getsG_step (dg := dgS) (n := n4 - (k + 1)) (b := lk))
      have HG2 := hide (getsG_stop (dg := dgS) (n := n4 - (k + 1)) (b := lk))
      rw [← HST.out] at HG1 HG2
      obtain ⟨m4, -⟩ := hD.out.box.cell 4
      clear hps1 e1 hD hRow
      by_cases hz : (dgS lk).2 = 0
      · rw [if_pos hz] at HC1
        have HF : Hid (RD = none) := hide (by rw [HRD4.out, hGS.out, HG2.out hz]; rfl)
        clear hz HG1 HG2 hGS
        go_wp2_with fail
        refine HC1.out.mono ?_
        rintro x W4 ⟨v4, l4, ns, rfl, hv4, hs4, hi4, hl4, hb4, ha4⟩
        obtain ⟨hres, hbel⟩ := ReadR.failed HDA.out HP1.out ha4
        have HRES := hide hres
        have HBEL := hide hbel
        clear hv4 hs4 hi4 hl4 hb4 ha4 hres hbel HC1 HDA m4
        obtain ⟨⟨z0, z1, z2, z3, z4, z5, z6, z7⟩, y0, y1, y2, y3, y4, y5, y6, y7⟩ := HRES.out.all
        go_wp2
        refine bodyPost_ret (v := .tuple #[.agg #[.int .i64 0, .int .i64 0, .int .i64 0, .int .i64 0, .slice none 0 0, .bool false, .int .i64 0, .slice none 0 0], .bool false]) (by simp [results, Tryz.results23, go_sem, z0, z1, z2, z3, z4, z5, z6, z7]) rfl ?_
        exact ReadDl.none HF.out (belowEightE HBEL.out _ (Nat.le_refl _) _ _ _ _ _ _ _ _)
      · rw [if_neg hz] at HC1
        have HGN : Hid (GS = (getsG dgS (n4 - (k + 1)) (lk.drop (dgS lk).2)).map (fun r => ((xs ++ [(dgS lk).1]) ++ r.1, r.2))) := hide (by
          rw [hGS.out, HG1.out hz]
          cases getsG dgS (n4 - (k + 1)) (lk.drop (dgS lk).2) with
          | none => rfl
          | some r => simp)
        have HXN : Hid (∀ x ∈ xs ++ [(dgS lk).1], I64 x) := hide (fun x hx => by
          rcases List.mem_append.1 hx with h | h
          · exact hXI.out x h
          · rw [List.mem_singleton.1 h]; exact dgS_i lk)
        have HLN : Hid ((lk.drop (dgS lk).2).length ≤ b.length) := hide (by rw [List.length_drop]; have := hlk.out; omega)
        generalize lk.drop (dgS lk).2 = l5 at *
        generalize (dgS lk).1 = x5 at *
        clear hz HG1 HG2 hGS hXI
        go_wp2_with fail
        refine HC1.out.mono ?_
        rintro x W4 ⟨v4, l4, ns, rfl, hv4, hs4, hi4, hl4, hb4, ha4⟩
        have hs5 := hs4 _ rfl
        simp only [Prod.mk.injEq] at hs5
        obtain ⟨hns, hll⟩ := hs5
        subst hns hll
        have HD4 := hide ((HDA.out.far hMlt k (.int .i64 x5)).alike ha4 hb4)
        have HR4 : Hid (RowI W4 M ((xs ++ [x5]) ++ List.replicate (n4 - (k + 1)) 0)) := hide (by
          rw [← fill_step xs n4 k x5 hxs.out hlt]
          exact (HRA.out.set k x5).keep (ha4.block M (by omega)))
        have HV4 := hide (fun X h => hv4 X (hV.out X h))
        obtain ⟨a4, c4, hv⟩ : ∃ a c, v4 = .slice a l5.length c := by obtain ⟨a, c, h, -⟩ := HV4.out w HRV.out; exact ⟨a, c, h⟩
        subst hv
        clear hv4 hs4 hi4 hl4 hb4 ha4 HC1 HDA HRA m4
        go_wp2
        go_roundw
        case rel => exact ⟨k + 1, xs ++ [x5], l5, a4, c4, by go_num, by omega, hide (by rw [List.length_append, List.length_singleton, hxs.out]), HLN, HD4, HR4, HV4, HXN, HGN⟩
        case measure => simp [intOf]; omega
    case neg =>
      have hni : ¬ (k : Int) < (n4 : Int) := by omega
      have hkn : n4 - k = 0 := by omega
      have HXL : Hid (xs.length = n4) := hide (by rw [hxs.out]; omega)
      have HRX : Hid (RowI wr M xs) := hide (by
        have h := hRow.out
        rw [hkn, List.replicate_zero, List.append_nil] at h
        exact h)
      have HR5 : Hid (RD = restD n0 n1 n2 n3 xs lk) := hide (by
        rw [HRD4.out, hGS.out, hkn]
        simp [getsG])
      have hp2 : ∀ p ∈ [(w.heap.size + 1 + 1 + 1, 0), (w.heap.size + 1 + 1 + 1 + 1, 0)], NumAt wr p ∧ w.heap.size < p.1 ∧ p.1 ≠ w.heap.size + 1 + 1 + 1 + 1 + 1 := fun p hp => by
        simp only [List.mem_cons, List.not_mem_nil, or_false] at hp
        rcases hp with rfl | rfl
        · exact ⟨⟨⟨0, hD.out.sea.cell.1⟩, hD.out.sea.cell.2⟩, by show _ < w.heap.size + 1 + 1 + 1; omega, by show w.heap.size + 1 + 1 + 1 ≠ _; omega⟩
        · exact ⟨⟨⟨0, hD.out.ent.cell.1⟩, hD.out.ent.cell.2⟩, by show _ < w.heap.size + 1 + 1 + 1 + 1; omega, by show w.heap.size + 1 + 1 + 1 + 1 ≠ _; omega⟩
      have HC2 := hide (HRP.out _ _ _ _ _ _ hD.out lk hV.out [(w.heap.size + 1 + 1 + 1, 0), (w.heap.size + 1 + 1 + 1 + 1, 0)] hp2 (by simp) #[.pointer (some ⟨w.heap.size + 1 + 1 + 1, 0, none⟩), .pointer (some ⟨w.heap.size + 1 + 1 + 1 + 1, 0, none⟩)] rfl wr.heap.size 2 rfl rfl)
      have HP2 : Hid (∀ p ∈ [(w.heap.size + 1 + 1 + 1, 0), (w.heap.size + 1 + 1 + 1 + 1, 0)], w.heap.size < p.1) := hide (fun p hp => (hp2 p hp).2.1)
      have HDA := hide (hD.out.alloc (.cells #[.pointer (some ⟨w.heap.size + 1 + 1 + 1, 0, none⟩), .pointer (some ⟨w.heap.size + 1 + 1 + 1 + 1, 0, none⟩)] 85))
      have HRA : Hid (RowI (wr.alloc (.cells #[.pointer (some ⟨w.heap.size + 1 + 1 + 1, 0, none⟩), .pointer (some ⟨w.heap.size + 1 + 1 + 1 + 1, 0, none⟩)] 85)) M xs) := hide (HRX.out.keep (Below.heap_alloc _ _ _ HRX.out.lt))
      have e2 : [(w.heap.size + 1 + 1 + 1, 0), (w.heap.size + 1 + 1 + 1 + 1, 0)].length = 2 := rfl
      rw [e2, getsG_P] at HC2
      have HGP := hide (fun r h => getsL_pair (b := lk) (r := r) h)
      have HGB : Hid (∀ r, getsL 2 lk = some r → r.2.length ≤ b.length) := hide (fun r h => by
        obtain ⟨-, g2, -⟩ := getsL_sound 2 lk r.1 r.2 h
        have h3 := congrArg List.length g2
        rw [List.length_append] at h3
        have := hlk.out
        omega)
      clear hp2 e2 HRX hD hRow hGS hkn
      cases hg2 : getsL 2 lk with
      | none =>
        have HF : Hid (RD = none) := hide (by rw [HR5.out]; unfold restD; rw [hg2]; rfl)
        rw [hg2] at HC2
        clear hg2 HGP HGB
        go_wp2_with fail
        refine HC2.out.mono ?_
        rintro x W4 ⟨v4, l4, ns, rfl, hv4, hs4, hi4, hl4, hb4, ha4⟩
        obtain ⟨hres, hbel⟩ := ReadR.failed HDA.out HP2.out ha4
        have HRES := hide hres
        have HBEL := hide hbel
        clear hv4 hs4 hi4 hl4 hb4 ha4 hres hbel HC2 HDA
        obtain ⟨⟨z0, z1, z2, z3, z4, z5, z6, z7⟩, y0, y1, y2, y3, y4, y5, y6, y7⟩ := HRES.out.all
        go_wp2
        refine bodyPost_ret (v := .tuple #[.agg #[.int .i64 0, .int .i64 0, .int .i64 0, .int .i64 0, .slice none 0 0, .bool false, .int .i64 0, .slice none 0 0], .bool false]) (by simp [results, Tryz.results23, go_sem, z0, z1, z2, z3, z4, z5, z6, z7]) rfl ?_
        exact ReadDl.none HF.out (belowEightE HBEL.out _ (Nat.le_refl _) _ _ _ _ _ _ _ _)
      | some r =>
      obtain ⟨sn, mn, hr1, ks, km⟩ := HGP.out r hg2
      have hl3 := HGB.out r hg2
      have HR6 : Hid (RD = (some r).bind (fun r => if 3 < r.1.getD 0 0 then none else (readE (r.1.getD 1 0) r.2).bind (fun z => if z.2 = [] then some ⟨(n0 : Nat), (n1 : Nat), (n2 : Nat), (n3 : Nat), xs, decide (0 < r.1.getD 0 0), if 0 < r.1.getD 0 0 then ((r.1.getD 0 0 : Nat) : Int) - 1 else 0, z.1⟩ else none))) := hide (by rw [HR5.out]; unfold restD; rw [hg2])
      rw [hg2] at HC2
      obtain ⟨rn, l3⟩ := r
      dsimp only at hr1 hl3
      subst hr1
      have HR7 : Hid (RD = if 3 < sn then none else (readE mn l3).bind (fun z => if z.2 = [] then some ⟨(n0 : Nat), (n1 : Nat), (n2 : Nat), (n3 : Nat), xs, decide (0 < sn), if 0 < sn then ((sn : Nat) : Int) - 1 else 0, z.1⟩ else none)) := hide HR6.out
      clear hg2 HGP HGB HR6 HR5
      go_wp2_with fail
      refine HC2.out.mono ?_
      rintro x W4 ⟨v4, l4, ns, rfl, hv4, hs4, hi4, hl4, hb4, ha4⟩
      have hs5 := hs4 _ rfl
      simp only [List.map_cons, List.map_nil, Prod.mk.injEq] at hs5
      obtain ⟨hns, hll⟩ := hs5
      subst hns hll
      have HD4 := hide (((HDA.out.setSea (sn : Int)).setEnt (mn : Int)).alike ha4 hb4)
      have HR4 : Hid (RowI W4 M xs) := hide (HRA.out.keep ((ha4.block M (by omega)).trans ((Below.heap_setCell _ _ _ _ (by show M ≠ w.heap.size + 1 + 1 + 1 + 1; omega)).trans (Below.heap_setCell _ _ _ _ (by show M ≠ w.heap.size + 1 + 1 + 1; omega)))))
      have HV4 := hide (fun X h => hv4 X (hV.out X h))
      obtain ⟨a4, c4, hv⟩ : ∃ a c, v4 = .slice a l3.length c := by obtain ⟨a, c, h, -⟩ := HV4.out w HRV.out; exact ⟨a, c, h⟩
      subst hv
      have HRES := hide HD4.out.res
      have HBEL := hide HD4.out.below
      clear hv4 hs4 hi4 hl4 hb4 ha4 HC2 HDA HRA HP2
      obtain ⟨cc, cf⟩ := HD4.out.sea.cell
      by_cases h3s : 3 < sn
      · have HF : Hid (RD = none) := hide (by rw [HR7.out, if_pos h3s])
        have h3i : (3 : Int) < (sn : Int) := by omega
        obtain ⟨⟨z0, z1, z2, z3, z4, z5, z6, z7⟩, y0, y1, y2, y3, y4, y5, y6, y7⟩ := HRES.out.all
        go_wp2
        refine bodyPost_ret (v := .tuple #[.agg #[.int .i64 0, .int .i64 0, .int .i64 0, .int .i64 0, .slice none 0 0, .bool false, .int .i64 0, .slice none 0 0], .bool false]) (by simp [results, Tryz.results23, go_sem, z0, z1, z2, z3, z4, z5, z6, z7]) rfl ?_
        exact ReadDl.none HF.out (belowEightE HBEL.out _ (Nat.le_refl _) _ _ _ _ _ _ _ _)

      have h3i : ¬ (3 : Int) < (sn : Int) := by omega
      have hsl : sn = 0 ∨ sn = 1 ∨ sn = 2 ∨ sn = 3 := by omega
      have HR8 : Hid (RD = (readE mn l3).bind (fun z => if z.2 = [] then some ⟨(n0 : Nat), (n1 : Nat), (n2 : Nat), (n3 : Nat), xs, decide (0 < sn), if 0 < sn then ((sn : Nat) : Int) - 1 else 0, z.1⟩ else none)) := hide (by rw [HR7.out, if_neg h3s])
      obtain ⟨b5, f5⟩ := HD4.out.box.cell 5
      obtain ⟨b6, f6⟩ := HD4.out.box.cell 6
      clear HR7 h3s HRES HBEL
      go_upto_region 15 with fail
      go_cut [] (fun wc => ∃ (sh : Bool) (g : Int), Hid (decide (0 < sn) = sh ∧ (if 0 < sn then ((sn : Nat) : Int) - 1 else 0) = g) ∧ Hid (I64 g) ∧ Hid (DIn w wc #[.int .i64 (n0 : Int), .int .i64 (n1 : Int), .int .i64 (n2 : Int), .int .i64 (n3 : Int), .slice (some ⟨M, 0, none⟩) n4 n4, .bool sh, .int .i64 g, .slice none 0 0] (n4 : Int) (sn : Int) (mn : Int) (.slice a4 l3.length c4)) ∧ Hid (RowI wc M xs))
      case first =>
        rcases hsl with rfl | rfl | rfl | rfl
        · go_wp2
          go_meet
          exact ⟨false, 0, hide ⟨rfl, rfl⟩, hide (i64_small (by omega) (by omega)), hide ((HD4.out.setBox 5 (.bool false)).setBox 6 (.int .i64 0)), hide (HR4.out.keep ((Below.heap_setCell _ _ _ _ (by show M ≠ w.heap.size + 1; omega)).trans (Below.heap_setCell _ _ _ _ (by show M ≠ w.heap.size + 1; omega))))⟩
        · go_wp2
          go_meet
          exact ⟨true, 0, hide ⟨rfl, rfl⟩, hide (i64_small (by omega) (by omega)), hide ((HD4.out.setBox 5 (.bool true)).setBox 6 (.int .i64 0)), hide (HR4.out.keep ((Below.heap_setCell _ _ _ _ (by show M ≠ w.heap.size + 1; omega)).trans (Below.heap_setCell _ _ _ _ (by show M ≠ w.heap.size + 1; omega))))⟩
        · go_wp2
          go_meet
          exact ⟨true, 1, hide ⟨rfl, rfl⟩, hide (i64_small (by omega) (by omega)), hide ((HD4.out.setBox 5 (.bool true)).setBox 6 (.int .i64 1)), hide (HR4.out.keep ((Below.heap_setCell _ _ _ _ (by show M ≠ w.heap.size + 1; omega)).trans (Below.heap_setCell _ _ _ _ (by show M ≠ w.heap.size + 1; omega))))⟩
        · go_wp2
          go_meet
          exact ⟨true, 2, hide ⟨rfl, rfl⟩, hide (i64_small (by omega) (by omega)), hide ((HD4.out.setBox 5 (.bool true)).setBox 6 (.int .i64 2)), hide (HR4.out.keep ((Below.heap_setCell _ _ _ _ (by show M ≠ w.heap.size + 1; omega)).trans (Below.heap_setCell _ _ _ _ (by show M ≠ w.heap.size + 1; omega))))⟩
      case rest =>
        obtain ⟨WC, rfl⟩ : ∃ W, W = wc := ⟨_, rfl⟩
        obtain ⟨sh, g, HSG, HGI, HD5, HRW5⟩ := hcut
        rw [HSG.out.1, HSG.out.2] at HR8
        clear HD4 HR4 b5 f5 b6 f6 cc cf HSG hsl h3i
        obtain ⟨RE, hRE⟩ : ∃ RE, RE = readE mn l3 := ⟨_, rfl⟩
        have HRE0 : Hid (RE = (readE (mn - 0) l3).map (fun r => ([] ++ r.1, r.2))) := hide (by
          rw [hRE, Nat.sub_zero]
          cases readE mn l3 <;> rfl)
        rw [← hRE] at HR8
        clear hRE
        have HN1 := hide (HN4.out)
        go_wp2
        go_loopw [11] (fun v11 wr => ∃ (th : Bool) (t : List Ent) (l2 : List UInt8) (a2 : Option Addr) (c2 : Nat) (ta : Option Addr) (tc : Nat), v11 = .bool th ∧ t.length ≤ b.length + 1 ∧ Hid (th = true → t.length + l2.length ≤ b.length ∧ t.length ≤ mn) ∧ Hid (DIn w wr #[.int .i64 (n0 : Int), .int .i64 (n1 : Int), .int .i64 (n2 : Int), .int .i64 (n3 : Int), .slice (some ⟨M, 0, none⟩) n4 n4, .bool sh, .int .i64 g, .slice ta t.length tc] (n4 : Int) (sn : Int) (mn : Int) (.slice a2 l2.length c2)) ∧ Hid (OwnE wr (M + 1) (.slice ta t.length tc) t) ∧ Hid (∀ e ∈ t, EntI e) ∧ Hid (RowI wr M xs) ∧ Hid (∀ X, Rd X (.slice va b.length vc) b → Rd X (.slice a2 l2.length c2) l2) ∧ Hid (th = true → RE = (readE (mn - t.length) l2).map (fun r => (t ++ r.1, r.2))) ∧ Hid (th = false → RE = none)) (fun v11 wr => leftW (w.heap.size + 1 + 1 + 1 + 1 + 1) v11 wr)
        case atStart => exact ⟨true, [], l3, a4, c4, none, 0, rfl, by simp, hide (fun _ => ⟨by simpa using hl3, Nat.zero_le _⟩), HD5, hide (OwnE.nil _ _), hide (fun e h => by simp at h), HRW5, HV4, hide (fun _ => HRE0.out), hide (fun h => by cases h)⟩
        case round =>
          clear HRE0 HD5 HRW5 HV4
          obtain ⟨th, t, l2, a2, c2, ta, tc, rfl, hlen, hL, hD, hO, hI, hRow, hV, hT, hN⟩ := hrel
          have hMl : M + 1 ≤ wr.heap.size := hRow.out.lt
          have HOB : Hid (∀ k, (Value.slice ta t.length tc).ownBlock = some k → M + 1 ≤ k ∧ k < wr.heap.size) := hide (fun k hk => World.ownsRow.lt hO.out k hk)
          have HDI : Hid (DelI ⟨(n0 : Nat), (n1 : Nat), (n2 : Nat), (n3 : Nat), xs, sh, g, t⟩) := hide (by
            obtain ⟨q0, q1, q2, q3⟩ := HN1.out
            exact ⟨⟨by show _ ≤ ((n0 : Nat) : Int); omega, by show ((n0 : Nat) : Int) ≤ _; omega⟩, ⟨by show _ ≤ ((n1 : Nat) : Int); omega, by show ((n1 : Nat) : Int) ≤ _; omega⟩, ⟨by show _ ≤ ((n2 : Nat) : Int); omega, by show ((n2 : Nat) : Int) ≤ _; omega⟩, ⟨by show _ ≤ ((n3 : Nat) : Int); omega, by show ((n3 : Nat) : Int) ≤ _; omega⟩, HGI.out⟩)
          have HEND : Hid (∀ (ok : Bool), RD.isSome = ok → (∀ d, RD = some d → d = ⟨(n0 : Nat), (n1 : Nat), (n2 : Nat), (n3 : Nat), xs, sh, g, t⟩) → ReadDl w RD (.returned (.tuple #[.agg #[.int .i64 (n0 : Int), .int .i64 (n1 : Int), .int .i64 (n2 : Int), .int .i64 (n3 : Int), .slice (some ⟨M, 0, none⟩) n4 n4, .bool sh, .int .i64 g, .slice ta t.length tc], .bool ok])) (eight wr w.heap.size (.int .i64 (n0 : Int)) (.int .i64 (n1 : Int)) (.int .i64 (n2 : Int)) (.int .i64 (n3 : Int)) (.slice (some ⟨M, 0, none⟩) n4 n4) (.bool sh) (.int .i64 g) (.slice ta t.length tc)).drew) := hide (fun ok h1 h2 => by
            have hbt := butEight wr w.heap.size (.int .i64 (n0 : Int)) (.int .i64 (n1 : Int)) (.int .i64 (n2 : Int)) (.int .i64 (n3 : Int)) (.slice (some ⟨M, 0, none⟩) n4 n4) (.bool sh) (.int .i64 g) (.slice ta t.length tc)
            have hrd : RdI wr (.slice (some ⟨M, 0, none⟩) n4 n4) xs := hRow.out.rd hXI.out (by have := HXL.out; omega) n4 HXL.out.symm
            have hre : RdE wr (.slice ta t.length tc) t := hO.out.rd hI.out
            exact ⟨⟨(n0 : Nat), (n1 : Nat), (n2 : Nat), (n3 : Nat), xs, sh, g, t⟩, _, _, by rw [h1], (hrd.but hbt (.inr fun k hk => by have := ownAtS _ _ _ _ hk; omega)).below ((Below.refl _ _).drew) (Nat.le_refl _), (hre.but hbt (.inr fun k hk => by have := HOB.out k hk; omega)).below ((Below.refl _ _).drew) (Nat.le_refl _), HDI.out, h2, (fun k hk => by have := ownAtS _ _ _ _ hk; omega), (fun k hk => by have := HOB.out k hk; omega), (belowEight hD.out.below _ (Nat.le_refl _) _ _ _ _ _ _ _ _).drew⟩)
          obtain ⟨⟨p0, p1, p2, p3, p4, p5, p6, p7⟩, -⟩ := hD.out.box.all
          obtain ⟨⟨z0, z1, z2, z3, z4, z5, z6, z7⟩, y0, y1, y2, y3, y4, y5, y6, y7⟩ := hD.out.res.all
          obtain ⟨cb, -⟩ := hD.out.cap.cell
          obtain ⟨ce, -⟩ := hD.out.ent.cell
          have hne1 : ¬ w.heap.size = w.heap.size + 1 := by omega
          have hne2 : ¬ w.heap.size + 1 = w.heap.size := by omega
          cases th with
          | false =>
            have HF : Hid (RD = none) := hide (by rw [HR8.out, hN.out rfl]; rfl)
            have HK0 : Hid (wr.drew.cell? ⟨w.heap.size + 1, 0, none⟩ = some (.int .i64 (n0 : Int)) ∧ wr.drew.cell? ⟨w.heap.size + 1, 1, none⟩ = some (.int .i64 (n1 : Int)) ∧ wr.drew.cell? ⟨w.heap.size + 1, 2, none⟩ = some (.int .i64 (n2 : Int)) ∧ wr.drew.cell? ⟨w.heap.size + 1, 3, none⟩ = some (.int .i64 (n3 : Int)) ∧ wr.drew.cell? ⟨w.heap.size + 1, 4, none⟩ = some (.slice (some ⟨M, 0, none⟩) n4 n4) ∧ wr.drew.cell? ⟨w.heap.size + 1, 5, none⟩ = some (.bool sh) ∧ wr.drew.cell? ⟨w.heap.size + 1, 6, none⟩ = some (.int .i64 g) ∧ wr.drew.cell? ⟨w.heap.size + 1, 7, none⟩ = some (.slice ta t.length tc) ∧ wr.drew.cell? ⟨w.heap.size + 1 + 1 + 1 + 1 + 1, 0, none⟩ = some (.slice a2 l2.length c2)) := hide (by obtain ⟨h0, h1, h2, h3, h4, h5, h6, h7⟩ := hD.out.box.all.1; exact ⟨h0, h1, h2, h3, h4, h5, h6, h7, hD.out.cap.cell.1⟩)
            have HK1 : Hid (∀ x0 x1 x2 x3 x4 x5 x6 x7 : Value, (fun W : World => W.cell? ⟨w.heap.size + 1, 0, none⟩ = some (.int .i64 (n0 : Int)) ∧ W.cell? ⟨w.heap.size + 1, 1, none⟩ = some (.int .i64 (n1 : Int)) ∧ W.cell? ⟨w.heap.size + 1, 2, none⟩ = some (.int .i64 (n2 : Int)) ∧ W.cell? ⟨w.heap.size + 1, 3, none⟩ = some (.int .i64 (n3 : Int)) ∧ W.cell? ⟨w.heap.size + 1, 4, none⟩ = some (.slice (some ⟨M, 0, none⟩) n4 n4) ∧ W.cell? ⟨w.heap.size + 1, 5, none⟩ = some (.bool sh) ∧ W.cell? ⟨w.heap.size + 1, 6, none⟩ = some (.int .i64 g) ∧ W.cell? ⟨w.heap.size + 1, 7, none⟩ = some (.slice ta t.length tc) ∧ W.cell? ⟨w.heap.size + 1 + 1 + 1 + 1 + 1, 0, none⟩ = some (.slice a2 l2.length c2)) ((((((((wr.setCell ⟨w.heap.size, 0, none⟩ x0).setCell ⟨w.heap.size, 1, none⟩ x1).setCell ⟨w.heap.size, 2, none⟩ x2).setCell ⟨w.heap.size, 3, none⟩ x3).setCell ⟨w.heap.size, 4, none⟩ x4).setCell ⟨w.heap.size, 5, none⟩ x5).setCell ⟨w.heap.size, 6, none⟩ x6).setCell ⟨w.heap.size, 7, none⟩ x7).drew) := hide (fun x0 x1 x2 x3 x4 x5 x6 x7 => by
              have h1 := hD.out.box.eightD (R := w.heap.size) (by omega) x0 x1 x2 x3 x4 x5 x6 x7
              have h2 := hD.out.cap.eightD (R := w.heap.size) (by omega) x0 x1 x2 x3 x4 x5 x6 x7
              obtain ⟨h0, h1, h3, h4, h5, h6, h7, h8⟩ := h1.all.1
              exact ⟨h0, h1, h3, h4, h5, h6, h7, h8, h2.cell.1⟩)
            clear p0 p1 p2 p3 p4 p5 p6
            go_upto_region 21 with fail
            clear p7 ce
            refine wp_region_held_drew (S := fun W => W.cell? ⟨w.heap.size + 1, 0, none⟩ = some (.int .i64 (n0 : Int)) ∧ W.cell? ⟨w.heap.size + 1, 1, none⟩ = some (.int .i64 (n1 : Int)) ∧ W.cell? ⟨w.heap.size + 1, 2, none⟩ = some (.int .i64 (n2 : Int)) ∧ W.cell? ⟨w.heap.size + 1, 3, none⟩ = some (.int .i64 (n3 : Int)) ∧ W.cell? ⟨w.heap.size + 1, 4, none⟩ = some (.slice (some ⟨M, 0, none⟩) n4 n4) ∧ W.cell? ⟨w.heap.size + 1, 5, none⟩ = some (.bool sh) ∧ W.cell? ⟨w.heap.size + 1, 6, none⟩ = some (.int .i64 g) ∧ W.cell? ⟨w.heap.size + 1, 7, none⟩ = some (.slice ta t.length tc) ∧ W.cell? ⟨w.heap.size + 1 + 1 + 1 + 1 + 1, 0, none⟩ = some (.slice a2 l2.length c2)) (by kernel_rfl) HK0.out (fun hHeld => ?_)
            refine wpAnyH_take (i := 0) (v := ?_) rfl (by kernel_rfl) (by kernel_rfl) (by kernel_rfl) (fun _ _ _ h => h) (Or.inl ⟨by rfl, ?_⟩) (by assumption) ?_
            rotate_left
            · intro w' hSw
              obtain ⟨s0, s1, s2, s3, s4, s5, s6, s7, s8⟩ := hSw
              go_simp
              try with_reducible rfl
            simp only [Act.put, List.getElem_toArray, List.getElem_cons_zero, List.getElem_cons_succ, List.setIfInBounds_toArray, List.set_cons_zero, List.set_cons_succ]
            refine wpAnyH_take (i := 1) (v := ?_) rfl (by kernel_rfl) (by kernel_rfl) (by kernel_rfl) (fun _ _ _ h => h) (Or.inl ⟨by rfl, ?_⟩) (by assumption) ?_
            rotate_left
            · intro w' hSw
              obtain ⟨s0, s1, s2, s3, s4, s5, s6, s7, s8⟩ := hSw
              go_simp
              try with_reducible rfl
            simp only [Act.put, List.getElem_toArray, List.getElem_cons_zero, List.getElem_cons_succ, List.setIfInBounds_toArray, List.set_cons_zero, List.set_cons_succ]
            refine wpAnyH_take (i := 2) (v := ?_) rfl (by kernel_rfl) (by kernel_rfl) (by kernel_rfl) (fun _ _ _ h => h) (Or.inl ⟨by rfl, ?_⟩) (by assumption) ?_
            rotate_left
            · intro w' hSw
              obtain ⟨s0, s1, s2, s3, s4, s5, s6, s7, s8⟩ := hSw
              go_simp
              try with_reducible rfl
            simp only [Act.put, List.getElem_toArray, List.getElem_cons_zero, List.getElem_cons_succ, List.setIfInBounds_toArray, List.set_cons_zero, List.set_cons_succ]
            refine wpAnyH_take (i := 3) (v := undef) rfl (by kernel_rfl) (by kernel_rfl) (by kernel_rfl) (fun _ _ _ h => h) (Or.inr ⟨by rfl, rfl⟩) (by assumption) ?_
            simp only [Act.put, List.getElem_toArray, List.getElem_cons_zero, List.getElem_cons_succ, List.setIfInBounds_toArray, List.set_cons_zero, List.set_cons_succ]
            refine wpAnyH_take (i := 4) (v := undef) rfl (by kernel_rfl) (by kernel_rfl) (by kernel_rfl) (fun _ _ _ h => h) (Or.inr ⟨by rfl, rfl⟩) (by assumption) ?_
            simp only [Act.put, List.getElem_toArray, List.getElem_cons_zero, List.getElem_cons_succ, List.setIfInBounds_toArray, List.set_cons_zero, List.set_cons_succ]
            refine wpAnyH_take (i := 5) (v := undef) rfl (by kernel_rfl) (by kernel_rfl) (by kernel_rfl) (fun _ _ _ h => h) (Or.inr ⟨by rfl, rfl⟩) (by assumption) ?_
            simp only [Act.put, List.getElem_toArray, List.getElem_cons_zero, List.getElem_cons_succ, List.setIfInBounds_toArray, List.set_cons_zero, List.set_cons_succ]
            refine wpAnyH_take (i := 6) (v := ?_) rfl (by kernel_rfl) (by kernel_rfl) (by kernel_rfl) (fun _ _ _ h => h) (Or.inl ⟨by rfl, ?_⟩) (by assumption) ?_
            rotate_left
            · intro w' hSw
              obtain ⟨s0, s1, s2, s3, s4, s5, s6, s7, s8⟩ := hSw
              go_simp
              try with_reducible rfl
            simp only [Act.put, List.getElem_toArray, List.getElem_cons_zero, List.getElem_cons_succ, List.setIfInBounds_toArray, List.set_cons_zero, List.set_cons_succ]
            refine wpAnyH_ready (rs := [7]) (by kernel_rfl) (by simp) ?_
            refine AllReadyH.cons rfl (fun K' hK => ?_) AllReadyH.nil
            go_simp
            refine hK.out _ _ ?_ (fun hHeld => ?_)
            · exact HK1.out _ _ _ _ _ _ _ _
            clear hK K'
            refine wpAnyH_take (i := 8) (v := ?_) rfl (by kernel_rfl) (by kernel_rfl) (by kernel_rfl) (fun _ _ _ h => h) (Or.inl ⟨by rfl, ?_⟩) (by assumption) ?_
            rotate_left
            · intro w' hSw
              obtain ⟨s0, s1, s2, s3, s4, s5, s6, s7, s8⟩ := hSw
              go_simp
              try with_reducible rfl
            simp only [Act.put, List.getElem_toArray, List.getElem_cons_zero, List.getElem_cons_succ, List.setIfInBounds_toArray, List.set_cons_zero, List.set_cons_succ]
            refine wpAnyH_done (by kernel_rfl) ?_ _
            all_goals
              go_wp2
              refine bodyPost_ret (v := .tuple #[.agg #[.int .i64 (n0 : Int), .int .i64 (n1 : Int), .int .i64 (n2 : Int), .int .i64 (n3 : Int), .slice (some ⟨M, 0, none⟩) n4 n4, .bool sh, .int .i64 g, .slice ta t.length tc], .bool false]) (by simp [results, Tryz.results23, go_sem, z0, z1, z2, z3, z4, z5, z6, z7]) rfl ?_
              exact HEND.out false (by rw [HF.out]; rfl) (fun d h => by rw [HF.out] at h; cases h)
          | true =>
          obtain ⟨hlen2, htm⟩ := hL.out rfl
          by_cases hlt2 : t.length < mn
          case neg =>
            have hni2 : ¬ (t.length : Int) < (mn : Int) := by omega
            have HT2 : Hid (RE = some (t, l2)) := hide (by
              rw [hT.out rfl, show mn - t.length = 0 by omega]
              simp [readE])
            have HRF : Hid (RD = if l2 = [] then some ⟨(n0 : Nat), (n1 : Nat), (n2 : Nat), (n3 : Nat), xs, sh, g, t⟩ else none) := hide (by rw [HR8.out, HT2.out]; rfl)
            have HLF : Hid (∀ W : World, W.cell? ⟨w.heap.size + 1 + 1 + 1 + 1 + 1, 0, none⟩ = some (.slice a2 l2.length c2) → Calls Tryz.prog 88 #[.pointer (some ⟨w.heap.size + 1 + 1 + 1 + 1 + 1, 0, none⟩)] W fun e w' => e = .returned (.int .i64 (l2.length : Int)) ∧ w' = W) := hide (fun W h => leftD_any _ _ _ _ W h)
            by_cases hl2 : l2.length = 0
            · have HF : Hid (RD = some ⟨(n0 : Nat), (n1 : Nat), (n2 : Nat), (n3 : Nat), xs, sh, g, t⟩) := hide (by rw [HRF.out, if_pos (List.eq_nil_of_length_eq_zero hl2)])
              have hbe : ((l2.length : Int) == 0) = true := by rw [beq_iff_eq]; omega
              clear hl2
              have HK0 : Hid (wr.drew.cell? ⟨w.heap.size + 1, 0, none⟩ = some (.int .i64 (n0 : Int)) ∧ wr.drew.cell? ⟨w.heap.size + 1, 1, none⟩ = some (.int .i64 (n1 : Int)) ∧ wr.drew.cell? ⟨w.heap.size + 1, 2, none⟩ = some (.int .i64 (n2 : Int)) ∧ wr.drew.cell? ⟨w.heap.size + 1, 3, none⟩ = some (.int .i64 (n3 : Int)) ∧ wr.drew.cell? ⟨w.heap.size + 1, 4, none⟩ = some (.slice (some ⟨M, 0, none⟩) n4 n4) ∧ wr.drew.cell? ⟨w.heap.size + 1, 5, none⟩ = some (.bool sh) ∧ wr.drew.cell? ⟨w.heap.size + 1, 6, none⟩ = some (.int .i64 g) ∧ wr.drew.cell? ⟨w.heap.size + 1, 7, none⟩ = some (.slice ta t.length tc) ∧ wr.drew.cell? ⟨w.heap.size + 1 + 1 + 1 + 1 + 1, 0, none⟩ = some (.slice a2 l2.length c2)) := hide (by obtain ⟨h0, h1, h2, h3, h4, h5, h6, h7⟩ := hD.out.box.all.1; exact ⟨h0, h1, h2, h3, h4, h5, h6, h7, hD.out.cap.cell.1⟩)
              have HK1 : Hid (∀ x0 x1 x2 x3 x4 x5 x6 x7 : Value, (fun W : World => W.cell? ⟨w.heap.size + 1, 0, none⟩ = some (.int .i64 (n0 : Int)) ∧ W.cell? ⟨w.heap.size + 1, 1, none⟩ = some (.int .i64 (n1 : Int)) ∧ W.cell? ⟨w.heap.size + 1, 2, none⟩ = some (.int .i64 (n2 : Int)) ∧ W.cell? ⟨w.heap.size + 1, 3, none⟩ = some (.int .i64 (n3 : Int)) ∧ W.cell? ⟨w.heap.size + 1, 4, none⟩ = some (.slice (some ⟨M, 0, none⟩) n4 n4) ∧ W.cell? ⟨w.heap.size + 1, 5, none⟩ = some (.bool sh) ∧ W.cell? ⟨w.heap.size + 1, 6, none⟩ = some (.int .i64 g) ∧ W.cell? ⟨w.heap.size + 1, 7, none⟩ = some (.slice ta t.length tc) ∧ W.cell? ⟨w.heap.size + 1 + 1 + 1 + 1 + 1, 0, none⟩ = some (.slice a2 l2.length c2)) ((((((((wr.setCell ⟨w.heap.size, 0, none⟩ x0).setCell ⟨w.heap.size, 1, none⟩ x1).setCell ⟨w.heap.size, 2, none⟩ x2).setCell ⟨w.heap.size, 3, none⟩ x3).setCell ⟨w.heap.size, 4, none⟩ x4).setCell ⟨w.heap.size, 5, none⟩ x5).setCell ⟨w.heap.size, 6, none⟩ x6).setCell ⟨w.heap.size, 7, none⟩ x7).drew) := hide (fun x0 x1 x2 x3 x4 x5 x6 x7 => by
                have h1 := hD.out.box.eightD (R := w.heap.size) (by omega) x0 x1 x2 x3 x4 x5 x6 x7
                have h2 := hD.out.cap.eightD (R := w.heap.size) (by omega) x0 x1 x2 x3 x4 x5 x6 x7
                obtain ⟨h0, h1, h3, h4, h5, h6, h7, h8⟩ := h1.all.1
                exact ⟨h0, h1, h3, h4, h5, h6, h7, h8, h2.cell.1⟩)
              clear p0 p1 p2 p3 p4 p5 p6
              go_upto_region 21 with fail
              clear p7 ce
              refine wp_region_held_drew (S := fun W => W.cell? ⟨w.heap.size + 1, 0, none⟩ = some (.int .i64 (n0 : Int)) ∧ W.cell? ⟨w.heap.size + 1, 1, none⟩ = some (.int .i64 (n1 : Int)) ∧ W.cell? ⟨w.heap.size + 1, 2, none⟩ = some (.int .i64 (n2 : Int)) ∧ W.cell? ⟨w.heap.size + 1, 3, none⟩ = some (.int .i64 (n3 : Int)) ∧ W.cell? ⟨w.heap.size + 1, 4, none⟩ = some (.slice (some ⟨M, 0, none⟩) n4 n4) ∧ W.cell? ⟨w.heap.size + 1, 5, none⟩ = some (.bool sh) ∧ W.cell? ⟨w.heap.size + 1, 6, none⟩ = some (.int .i64 g) ∧ W.cell? ⟨w.heap.size + 1, 7, none⟩ = some (.slice ta t.length tc) ∧ W.cell? ⟨w.heap.size + 1 + 1 + 1 + 1 + 1, 0, none⟩ = some (.slice a2 l2.length c2)) (by kernel_rfl) HK0.out (fun hHeld => ?_)
              refine wpAnyH_take (i := 0) (v := ?_) rfl (by kernel_rfl) (by kernel_rfl) (by kernel_rfl) (fun _ _ _ h => h) (Or.inl ⟨by rfl, ?_⟩) (by assumption) ?_
              rotate_left
              · intro w' hSw
                obtain ⟨s0, s1, s2, s3, s4, s5, s6, s7, s8⟩ := hSw
                go_simp
                try with_reducible rfl
              simp only [Act.put, List.getElem_toArray, List.getElem_cons_zero, List.getElem_cons_succ, List.setIfInBounds_toArray, List.set_cons_zero, List.set_cons_succ]
              refine wpAnyH_take (i := 1) (v := ?_) rfl (by kernel_rfl) (by kernel_rfl) (by kernel_rfl) (fun _ _ _ h => h) (Or.inl ⟨by rfl, ?_⟩) (by assumption) ?_
              rotate_left
              · intro w' hSw
                obtain ⟨s0, s1, s2, s3, s4, s5, s6, s7, s8⟩ := hSw
                go_simp
                try with_reducible rfl
              simp only [Act.put, List.getElem_toArray, List.getElem_cons_zero, List.getElem_cons_succ, List.setIfInBounds_toArray, List.set_cons_zero, List.set_cons_succ]
              refine wpAnyH_take (i := 2) (v := ?_) rfl (by kernel_rfl) (by kernel_rfl) (by kernel_rfl) (fun _ _ _ h => h) (Or.inl ⟨by rfl, ?_⟩) (by assumption) ?_
              rotate_left
              · intro w' hSw
                obtain ⟨s0, s1, s2, s3, s4, s5, s6, s7, s8⟩ := hSw
                go_simp
                try with_reducible rfl
              simp only [Act.put, List.getElem_toArray, List.getElem_cons_zero, List.getElem_cons_succ, List.setIfInBounds_toArray, List.set_cons_zero, List.set_cons_succ]
              refine wpAnyH_take (i := 3) (v := ?_) rfl (by kernel_rfl) (by kernel_rfl) (by kernel_rfl) (fun _ _ _ h => h) (Or.inl ⟨by rfl, ?_⟩) (by assumption) ?_
              rotate_left
              · intro w' hSw
                obtain ⟨s0, s1, s2, s3, s4, s5, s6, s7, s8⟩ := hSw
                go_simp
                try with_reducible rfl
              simp only [Act.put, List.getElem_toArray, List.getElem_cons_zero, List.getElem_cons_succ, List.setIfInBounds_toArray, List.set_cons_zero, List.set_cons_succ]
              refine wpAnyH_ready (rs := [4]) (by kernel_rfl) (by simp) ?_
              refine AllReadyH.cons rfl (fun K' hK => ?_) AllReadyH.nil
              go_simp
              go_wp2_with (go_at_call 88; refine (HLF.out wr.drew HK0.out.2.2.2.2.2.2.2.2).mono ?_; rintro e W' ⟨rfl, hw'⟩; rw [hw']; clear hw' W')
              refine hK.out _ _ (HK0.out) (fun hHeld => ?_)
              clear hK K'
              refine wpAnyH_take (i := 5) (v := ?_) rfl (by kernel_rfl) (by kernel_rfl) (by kernel_rfl) (fun _ _ _ h => h) (Or.inl ⟨by rfl, ?_⟩) (by assumption) ?_
              rotate_left
              · intro w' hSw
                obtain ⟨s0, s1, s2, s3, s4, s5, s6, s7, s8⟩ := hSw
                go_simp
                try with_reducible rfl
              simp only [Act.put, List.getElem_toArray, List.getElem_cons_zero, List.getElem_cons_succ, List.setIfInBounds_toArray, List.set_cons_zero, List.set_cons_succ]
              refine wpAnyH_take (i := 6) (v := ?_) rfl (by kernel_rfl) (by kernel_rfl) (by kernel_rfl) (fun _ _ _ h => h) (Or.inl ⟨by rfl, ?_⟩) (by assumption) ?_
              rotate_left
              · intro w' hSw
                obtain ⟨s0, s1, s2, s3, s4, s5, s6, s7, s8⟩ := hSw
                go_simp
                try with_reducible rfl
              simp only [Act.put, List.getElem_toArray, List.getElem_cons_zero, List.getElem_cons_succ, List.setIfInBounds_toArray, List.set_cons_zero, List.set_cons_succ]
              refine wpAnyH_ready (rs := [7]) (by kernel_rfl) (by simp) ?_
              refine AllReadyH.cons rfl (fun K' hK => ?_) AllReadyH.nil
              go_simp
              refine hK.out _ _ ?_ (fun hHeld => ?_)
              · exact HK1.out _ _ _ _ _ _ _ _
              clear hK K'
              refine wpAnyH_take (i := 8) (v := ?_) rfl (by kernel_rfl) (by kernel_rfl) (by kernel_rfl) (fun _ _ _ h => h) (Or.inl ⟨by rfl, ?_⟩) (by assumption) ?_
              rotate_left
              · intro w' hSw
                obtain ⟨s0, s1, s2, s3, s4, s5, s6, s7, s8⟩ := hSw
                go_simp
                try with_reducible rfl
              simp only [Act.put, List.getElem_toArray, List.getElem_cons_zero, List.getElem_cons_succ, List.setIfInBounds_toArray, List.set_cons_zero, List.set_cons_succ]
              refine wpAnyH_done (by kernel_rfl) ?_ _
              go_wp2
              refine bodyPost_ret (v := .tuple #[.agg #[.int .i64 (n0 : Int), .int .i64 (n1 : Int), .int .i64 (n2 : Int), .int .i64 (n3 : Int), .slice (some ⟨M, 0, none⟩) n4 n4, .bool sh, .int .i64 g, .slice ta t.length tc], .bool true]) (by simp [results, Tryz.results23, go_sem, z0, z1, z2, z3, z4, z5, z6, z7]) rfl ?_
              exact HEND.out true (by rw [HF.out]; rfl) (fun d h => by rw [HF.out] at h; injection h with h; exact h.symm)
            · have HF : Hid (RD = none) := hide (by rw [HRF.out, if_neg (fun e => hl2 (by rw [e]; rfl))])
              have hbe : ((l2.length : Int) == 0) = false := beq_eq_false_iff_ne.2 (by omega)
              clear hl2
              have HK0 : Hid (wr.drew.cell? ⟨w.heap.size + 1, 0, none⟩ = some (.int .i64 (n0 : Int)) ∧ wr.drew.cell? ⟨w.heap.size + 1, 1, none⟩ = some (.int .i64 (n1 : Int)) ∧ wr.drew.cell? ⟨w.heap.size + 1, 2, none⟩ = some (.int .i64 (n2 : Int)) ∧ wr.drew.cell? ⟨w.heap.size + 1, 3, none⟩ = some (.int .i64 (n3 : Int)) ∧ wr.drew.cell? ⟨w.heap.size + 1, 4, none⟩ = some (.slice (some ⟨M, 0, none⟩) n4 n4) ∧ wr.drew.cell? ⟨w.heap.size + 1, 5, none⟩ = some (.bool sh) ∧ wr.drew.cell? ⟨w.heap.size + 1, 6, none⟩ = some (.int .i64 g) ∧ wr.drew.cell? ⟨w.heap.size + 1, 7, none⟩ = some (.slice ta t.length tc) ∧ wr.drew.cell? ⟨w.heap.size + 1 + 1 + 1 + 1 + 1, 0, none⟩ = some (.slice a2 l2.length c2)) := hide (by obtain ⟨h0, h1, h2, h3, h4, h5, h6, h7⟩ := hD.out.box.all.1; exact ⟨h0, h1, h2, h3, h4, h5, h6, h7, hD.out.cap.cell.1⟩)
              have HK1 : Hid (∀ x0 x1 x2 x3 x4 x5 x6 x7 : Value, (fun W : World => W.cell? ⟨w.heap.size + 1, 0, none⟩ = some (.int .i64 (n0 : Int)) ∧ W.cell? ⟨w.heap.size + 1, 1, none⟩ = some (.int .i64 (n1 : Int)) ∧ W.cell? ⟨w.heap.size + 1, 2, none⟩ = some (.int .i64 (n2 : Int)) ∧ W.cell? ⟨w.heap.size + 1, 3, none⟩ = some (.int .i64 (n3 : Int)) ∧ W.cell? ⟨w.heap.size + 1, 4, none⟩ = some (.slice (some ⟨M, 0, none⟩) n4 n4) ∧ W.cell? ⟨w.heap.size + 1, 5, none⟩ = some (.bool sh) ∧ W.cell? ⟨w.heap.size + 1, 6, none⟩ = some (.int .i64 g) ∧ W.cell? ⟨w.heap.size + 1, 7, none⟩ = some (.slice ta t.length tc) ∧ W.cell? ⟨w.heap.size + 1 + 1 + 1 + 1 + 1, 0, none⟩ = some (.slice a2 l2.length c2)) ((((((((wr.setCell ⟨w.heap.size, 0, none⟩ x0).setCell ⟨w.heap.size, 1, none⟩ x1).setCell ⟨w.heap.size, 2, none⟩ x2).setCell ⟨w.heap.size, 3, none⟩ x3).setCell ⟨w.heap.size, 4, none⟩ x4).setCell ⟨w.heap.size, 5, none⟩ x5).setCell ⟨w.heap.size, 6, none⟩ x6).setCell ⟨w.heap.size, 7, none⟩ x7).drew) := hide (fun x0 x1 x2 x3 x4 x5 x6 x7 => by
                have h1 := hD.out.box.eightD (R := w.heap.size) (by omega) x0 x1 x2 x3 x4 x5 x6 x7
                have h2 := hD.out.cap.eightD (R := w.heap.size) (by omega) x0 x1 x2 x3 x4 x5 x6 x7
                obtain ⟨h0, h1, h3, h4, h5, h6, h7, h8⟩ := h1.all.1
                exact ⟨h0, h1, h3, h4, h5, h6, h7, h8, h2.cell.1⟩)
              clear p0 p1 p2 p3 p4 p5 p6
              go_upto_region 21 with fail
              clear p7 ce
              refine wp_region_held_drew (S := fun W => W.cell? ⟨w.heap.size + 1, 0, none⟩ = some (.int .i64 (n0 : Int)) ∧ W.cell? ⟨w.heap.size + 1, 1, none⟩ = some (.int .i64 (n1 : Int)) ∧ W.cell? ⟨w.heap.size + 1, 2, none⟩ = some (.int .i64 (n2 : Int)) ∧ W.cell? ⟨w.heap.size + 1, 3, none⟩ = some (.int .i64 (n3 : Int)) ∧ W.cell? ⟨w.heap.size + 1, 4, none⟩ = some (.slice (some ⟨M, 0, none⟩) n4 n4) ∧ W.cell? ⟨w.heap.size + 1, 5, none⟩ = some (.bool sh) ∧ W.cell? ⟨w.heap.size + 1, 6, none⟩ = some (.int .i64 g) ∧ W.cell? ⟨w.heap.size + 1, 7, none⟩ = some (.slice ta t.length tc) ∧ W.cell? ⟨w.heap.size + 1 + 1 + 1 + 1 + 1, 0, none⟩ = some (.slice a2 l2.length c2)) (by kernel_rfl) HK0.out (fun hHeld => ?_)
              refine wpAnyH_take (i := 0) (v := ?_) rfl (by kernel_rfl) (by kernel_rfl) (by kernel_rfl) (fun _ _ _ h => h) (Or.inl ⟨by rfl, ?_⟩) (by assumption) ?_
              rotate_left
              · intro w' hSw
                obtain ⟨s0, s1, s2, s3, s4, s5, s6, s7, s8⟩ := hSw
                go_simp
                try with_reducible rfl
              simp only [Act.put, List.getElem_toArray, List.getElem_cons_zero, List.getElem_cons_succ, List.setIfInBounds_toArray, List.set_cons_zero, List.set_cons_succ]
              refine wpAnyH_take (i := 1) (v := ?_) rfl (by kernel_rfl) (by kernel_rfl) (by kernel_rfl) (fun _ _ _ h => h) (Or.inl ⟨by rfl, ?_⟩) (by assumption) ?_
              rotate_left
              · intro w' hSw
                obtain ⟨s0, s1, s2, s3, s4, s5, s6, s7, s8⟩ := hSw
                go_simp
                try with_reducible rfl
              simp only [Act.put, List.getElem_toArray, List.getElem_cons_zero, List.getElem_cons_succ, List.setIfInBounds_toArray, List.set_cons_zero, List.set_cons_succ]
              refine wpAnyH_take (i := 2) (v := ?_) rfl (by kernel_rfl) (by kernel_rfl) (by kernel_rfl) (fun _ _ _ h => h) (Or.inl ⟨by rfl, ?_⟩) (by assumption) ?_
              rotate_left
              · intro w' hSw
                obtain ⟨s0, s1, s2, s3, s4, s5, s6, s7, s8⟩ := hSw
                go_simp
                try with_reducible rfl
              simp only [Act.put, List.getElem_toArray, List.getElem_cons_zero, List.getElem_cons_succ, List.setIfInBounds_toArray, List.set_cons_zero, List.set_cons_succ]
              refine wpAnyH_take (i := 3) (v := ?_) rfl (by kernel_rfl) (by kernel_rfl) (by kernel_rfl) (fun _ _ _ h => h) (Or.inl ⟨by rfl, ?_⟩) (by assumption) ?_
              rotate_left
              · intro w' hSw
                obtain ⟨s0, s1, s2, s3, s4, s5, s6, s7, s8⟩ := hSw
                go_simp
                try with_reducible rfl
              simp only [Act.put, List.getElem_toArray, List.getElem_cons_zero, List.getElem_cons_succ, List.setIfInBounds_toArray, List.set_cons_zero, List.set_cons_succ]
              refine wpAnyH_ready (rs := [4]) (by kernel_rfl) (by simp) ?_
              refine AllReadyH.cons rfl (fun K' hK => ?_) AllReadyH.nil
              go_simp
              go_wp2_with (go_at_call 88; refine (HLF.out wr.drew HK0.out.2.2.2.2.2.2.2.2).mono ?_; rintro e W' ⟨rfl, hw'⟩; rw [hw']; clear hw' W')
              refine hK.out _ _ (HK0.out) (fun hHeld => ?_)
              clear hK K'
              refine wpAnyH_take (i := 5) (v := ?_) rfl (by kernel_rfl) (by kernel_rfl) (by kernel_rfl) (fun _ _ _ h => h) (Or.inl ⟨by rfl, ?_⟩) (by assumption) ?_
              rotate_left
              · intro w' hSw
                obtain ⟨s0, s1, s2, s3, s4, s5, s6, s7, s8⟩ := hSw
                go_simp
                try with_reducible rfl
              simp only [Act.put, List.getElem_toArray, List.getElem_cons_zero, List.getElem_cons_succ, List.setIfInBounds_toArray, List.set_cons_zero, List.set_cons_succ]
              refine wpAnyH_take (i := 6) (v := ?_) rfl (by kernel_rfl) (by kernel_rfl) (by kernel_rfl) (fun _ _ _ h => h) (Or.inl ⟨by rfl, ?_⟩) (by assumption) ?_
              rotate_left
              · intro w' hSw
                obtain ⟨s0, s1, s2, s3, s4, s5, s6, s7, s8⟩ := hSw
                go_simp
                try with_reducible rfl
              simp only [Act.put, List.getElem_toArray, List.getElem_cons_zero, List.getElem_cons_succ, List.setIfInBounds_toArray, List.set_cons_zero, List.set_cons_succ]
              refine wpAnyH_ready (rs := [7]) (by kernel_rfl) (by simp) ?_
              refine AllReadyH.cons rfl (fun K' hK => ?_) AllReadyH.nil
              go_simp
              refine hK.out _ _ ?_ (fun hHeld => ?_)
              · exact HK1.out _ _ _ _ _ _ _ _
              clear hK K'
              refine wpAnyH_take (i := 8) (v := ?_) rfl (by kernel_rfl) (by kernel_rfl) (by kernel_rfl) (fun _ _ _ h => h) (Or.inl ⟨by rfl, ?_⟩) (by assumption) ?_
              rotate_left
              · intro w' hSw
                obtain ⟨s0, s1, s2, s3, s4, s5, s6, s7, s8⟩ := hSw
                go_simp
                try with_reducible rfl
              simp only [Act.put, List.getElem_toArray, List.getElem_cons_zero, List.getElem_cons_succ, List.setIfInBounds_toArray, List.set_cons_zero, List.set_cons_succ]
              refine wpAnyH_done (by kernel_rfl) ?_ _
              go_wp2
              refine bodyPost_ret (v := .tuple #[.agg #[.int .i64 (n0 : Int), .int .i64 (n1 : Int), .int .i64 (n2 : Int), .int .i64 (n3 : Int), .slice (some ⟨M, 0, none⟩) n4 n4, .bool sh, .int .i64 g, .slice ta t.length tc], .bool false]) (by simp [results, Tryz.results23, go_sem, z0, z1, z2, z3, z4, z5, z6, z7]) rfl ?_
              exact HEND.out false (by rw [HF.out]; rfl) (fun d h => by rw [HF.out] at h; cases h)
          case pos =>
            have hti : (t.length : Int) < (mn : Int) := by omega
            have HT1 : Hid (RE = ((step1 l2).bind (fun y => (readE (mn - (t.length + 1)) y.2).map (fun r => (y.1 :: r.1, r.2)))).map (fun r => (t ++ r.1, r.2))) := hide (by
              rw [hT.out rfl, show mn - t.length = (mn - (t.length + 1)) + 1 by omega, readE_step1])
            have HLS := hide (fun y h => step1_less (b := l2) (y := y) h)
            have HLW : Hid (leftW (w.heap.size + 1 + 1 + 1 + 1 + 1) (.bool true) wr = l2.length + 1) := hide (leftW_at hD.out.cap)
            obtain ⟨QB, hQB⟩ : ∃ QB, QB = wr.heap.size := ⟨_, rfl⟩
            obtain ⟨W6, hW6⟩ : ∃ W6, W6 = wr.alloc (.cells #[.int .i64 0, .int .i64 0, .int .i64 0] 48) := ⟨_, rfl⟩
            have hA6 : Below wr.heap.size wr W6 := by rw [hW6]; exact (Below.refl _ _).alloc (Nat.le_refl _) _
            have HD6 := hide (hD.out.more hA6)
            have hE6 : Be W6 QB #[.int .i64 0, .int .i64 0, .int .i64 0] := by rw [hW6, hQB]; exact heap_alloc_new wr _
            have hQM : M < QB := by rw [hQB]; exact hRow.out.lt
            have HOQ : Hid (∀ k, (Value.slice ta t.length tc).ownBlock = some k → M + 1 ≤ k ∧ k < QB) := hide (fun k hk => by rw [hQB]; exact HOB.out k hk)
            have HO6 := hide (hO.out.below hA6 (Nat.le_refl _))
            have HR6 : Hid (RowI W6 M xs) := hide (hRow.out.keep (hA6.block M hRow.out.lt))
            have hpe : ∀ p ∈ [(QB, 0), (QB, 1)], NumAt W6 p ∧ w.heap.size < p.1 ∧ p.1 ≠ w.heap.size + 1 + 1 + 1 + 1 + 1 := fun p hp => by
              simp only [List.mem_cons, List.not_mem_nil, or_false] at hp
              rcases hp with rfl | rfl
              · exact ⟨⟨⟨0, (hE6.cell 0).1⟩, (hE6.cell 0).2⟩, by show _ < QB; omega, by show QB ≠ _; omega⟩
              · exact ⟨⟨⟨0, (hE6.cell 1).1⟩, (hE6.cell 1).2⟩, by show _ < QB; omega, by show QB ≠ _; omega⟩
            have HCg := hide (HRP.out _ _ _ _ _ _ HD6.out l2 hV.out [(QB, 0), (QB, 1)] hpe (by simp) #[.pointer (some ⟨QB, 0, none⟩), .pointer (some ⟨QB, 1, none⟩)] rfl W6.heap.size 2 rfl rfl)
            have e22 : [(QB, 0), (QB, 1)].length = 2 := rfl
            rw [e22, getsG_P] at HCg
            obtain ⟨W6a, hW6a⟩ : ∃ W6a, W6a = W6.alloc (.cells #[.pointer (some ⟨QB, 0, none⟩), .pointer (some ⟨QB, 1, none⟩)] 85) := ⟨_, rfl⟩
            have hA7 : Below W6.heap.size W6 W6a := by rw [hW6a]; exact (Below.refl _ _).alloc (Nat.le_refl _) _
            rw [← hW6a] at HCg
            have HDA6 := hide (HD6.out.more hA7)
            have HEA6 := hide (hE6.below hA7 (Nat.le_refl _))
            have HOA6 := hide (HO6.out.below hA7 (Nat.le_refl _))
            have HRA6 : Hid (RowI W6a M xs) := hide (HR6.out.keep (hA7.block M HR6.out.lt))
            have HFAR : Hid (∀ n, ∀ p ∈ [(QB, 0), (QB, 1)].take n, w.heap.size + 1 + 1 + 1 + 1 + 1 < p.1 ∧ p.1 = QB) := hide (fun n p hp => by
              have := List.mem_of_mem_take hp
              simp only [List.mem_cons, List.not_mem_nil, or_false] at this
              rcases this with rfl | rfl
              · exact ⟨by show _ < QB; omega, rfl⟩
              · exact ⟨by show _ < QB; omega, rfl⟩)
            have HW6 := hide hW6
            have HW6a := hide hW6a
            clear hpe e22 hW6 hW6a hA6 hA7 hE6 HD6 HO6 HR6 hT hN hL hO hRow hD HEND HOB p0 p1 p2 p3 p4 p5 p6 z0 z1 z2 z3 z4 z5 z6 z7 y0 y1 y2 y3 y4 y5 y6 y7 cb hne1 hne2
            go_upto_region 19 with fail
            rw [← HW6.out, ← hQB]
            clear HW6 hQB p7 ce
            go_cut [11] (fun x11 wc => ∃ (ok : Bool) (x y z : Int) (l5 : List UInt8) (a5 : Option Addr) (c5 : Nat), x11 = .bool ok ∧ Hid (ok = (step1 l2).isSome) ∧ Hid (∀ q, step1 l2 = some q → q = (⟨x, y, z⟩, l5)) ∧ Hid (EntI ⟨x, y, z⟩) ∧ Hid (DIn w wc #[.int .i64 (n0 : Int), .int .i64 (n1 : Int), .int .i64 (n2 : Int), .int .i64 (n3 : Int), .slice (some ⟨M, 0, none⟩) n4 n4, .bool sh, .int .i64 g, .slice ta t.length tc] (n4 : Int) (sn : Int) (mn : Int) (.slice a5 l5.length c5)) ∧ Hid (Be wc QB #[.int .i64 x, .int .i64 y, .int .i64 z]) ∧ Hid (OwnE wc (M + 1) (.slice ta t.length tc) t) ∧ Hid (RowI wc M xs) ∧ Hid (∀ X, Rd X (.slice va b.length vc) b → Rd X (.slice a5 l5.length c5) l5))
            case first =>
              cases hg3 : getsL 2 l2 with
              | none =>
                have HS1 : Hid (step1 l2 = none) := hide (by unfold step1; rw [hg3])
                rw [hg3] at HCg
                rw [HW6a.out] at HCg
                clear hg3
                go_wp2_with fail
                refine HCg.out.mono ?_
                rw [← HW6a.out]
                rintro x W7 ⟨v7, l7, ns, rfl, hv7, hs7, hi7, hl7, hb7, ha7⟩
                obtain ⟨x7, y7, hE7, hx7, hy7⟩ := box_twoI HEA6.out ns hl7 hi7
                have HV7 := hide (fun X h => hv7 X (hV.out X h))
                obtain ⟨a7, c7, hv⟩ : ∃ a c, v7 = .slice a l7.length c := by obtain ⟨a, c, h, -⟩ := HV7.out w HRV.out; exact ⟨a, c, h⟩
                subst hv
                have HD7 := hide ((HDA6.out.setAt _ ns (fun p hp => (HFAR.out _ p hp).1)).alike ha7 hb7)
                have HE7 : Hid (Be W7 QB #[.int .i64 x7, .int .i64 y7, .int .i64 0]) := hide ((ha7.block QB (by omega)).trans hE7)
                have HO7 := hide (HOA6.out.same (fun g hg => (ha7.block g (by have := HOQ.out g hg; omega)).trans (setAtI_block _ _ ns g (fun p hp => by have h1 := HOQ.out g hg; have h2 := (HFAR.out _ p hp).2; omega))))
                have HR7 : Hid (RowI W7 M xs) := hide (HRA6.out.keep ((ha7.block M (by omega)).trans (setAtI_block _ _ ns M (fun p hp => by have h2 := (HFAR.out _ p hp).2; omega))))
                have HEI : Hid (EntI ⟨x7, y7, 0⟩) := hide ⟨hx7, hy7, (i64_small (by decide) (by decide) : I64 0)⟩
                clear hv7 hs7 hi7 hl7 hb7 ha7 hE7 hx7 hy7 HCg
                go_wp2_with fail
                go_meet
                exact ⟨false, x7, y7, 0, l7, a7, c7, rfl, hide (by rw [HS1.out]; rfl), hide (fun q h => by rw [HS1.out] at h; cases h), HEI, HD7, HE7, HO7, HR7, HV7⟩
              | some r =>
                obtain ⟨pn, qn, hr3, kp, kq⟩ := getsL_pair hg3
                obtain ⟨rn, l8⟩ := r
                dsimp only at hr3
                subst hr3
                have HS1 : Hid (step1 l2 = if (dgS l8).2 = 0 then none else some (⟨(pn : Int), (qn : Int), (dgS l8).1⟩, l8.drop (dgS l8).2)) := hide (by unfold step1; rw [hg3]; rfl)
                have HPI : Hid (I64 (pn : Int) ∧ I64 (qn : Int)) := hide ⟨⟨by omega, by omega⟩, ⟨by omega, by omega⟩⟩
                rw [hg3] at HCg
                rw [HW6a.out] at HCg
                clear hg3 kp kq
                go_wp2_with fail
                refine HCg.out.mono ?_
                rw [← HW6a.out]
                rintro x W7 ⟨v7, l7, ns, rfl, hv7, hs7, hi7, hl7, hb7, ha7⟩
                have hs8 := hs7 _ rfl
                simp only [List.map_cons, List.map_nil, Prod.mk.injEq] at hs8
                obtain ⟨hns, hll⟩ := hs8
                subst hns hll
                have HV7 := hide (fun X h => hv7 X (hV.out X h))
                obtain ⟨a7, c7, hv⟩ : ∃ a c, v7 = .slice a l8.length c := by obtain ⟨a, c, h, -⟩ := HV7.out w HRV.out; exact ⟨a, c, h⟩
                subst hv
                have HD7 := hide ((HDA6.out.setAt _ _ (fun p hp => (HFAR.out _ p hp).1)).alike ha7 hb7)
                have hE7 : Be W7 QB #[.int .i64 (pn : Int), .int .i64 (qn : Int), .int .i64 0] := (ha7.block QB (by omega)).trans ((HEA6.out.set 0 (.int .i64 (pn : Int))).set 1 (.int .i64 (qn : Int)))
                have HO7 := hide (HOA6.out.same (fun g hg => (ha7.block g (by have := HOQ.out g hg; omega)).trans (setAtI_block _ _ _ g (fun p hp => by have h1 := HOQ.out g hg; have h2 := (HFAR.out _ p hp).2; omega))))
                have HR7 : Hid (RowI W7 M xs) := hide (HRA6.out.keep ((ha7.block M (by omega)).trans (setAtI_block _ _ _ M (fun p hp => by have h2 := (HFAR.out _ p hp).2; omega))))
                have hpz : ∀ p ∈ [(QB, 2)], NumAt W7 p ∧ w.heap.size < p.1 ∧ p.1 ≠ w.heap.size + 1 + 1 + 1 + 1 + 1 := fun p hp => by
                  rw [List.mem_singleton.1 hp]
                  exact ⟨⟨⟨0, (hE7.cell 2).1⟩, (hE7.cell 2).2⟩, by show _ < QB; omega, by show QB ≠ _; omega⟩
                have HCs := hide (HRS.out _ _ _ _ _ _ HD7.out l8 HV7.out [(QB, 2)] hpz (by simp) #[.pointer (some ⟨QB, 2, none⟩)] rfl W7.heap.size 1 rfl rfl)
                have e11 : [(QB, 2)].length = 1 := rfl
                rw [e11, getsG_one] at HCs
                obtain ⟨W7a, hW7a⟩ : ∃ W7a, W7a = W7.alloc (.cells #[.pointer (some ⟨QB, 2, none⟩)] 85) := ⟨_, rfl⟩
                have hA8 : Below W7.heap.size W7 W7a := by rw [hW7a]; exact (Below.refl _ _).alloc (Nat.le_refl _) _
                have HDA7 := hide (HD7.out.more hA8)
                have HEA7 := hide (hE7.below hA8 (Nat.le_refl _))
                have HOA7 := hide (HO7.out.below hA8 (Nat.le_refl _))
                have HRA7 : Hid (RowI W7a M xs) := hide (HR7.out.keep (hA8.block M HR7.out.lt))
                have HFA2 : Hid (∀ n, ∀ p ∈ [(QB, 2)].take n, w.heap.size + 1 + 1 + 1 + 1 + 1 < p.1 ∧ p.1 = QB) := hide (fun n p hp => by
                  have := List.mem_of_mem_take hp
                  rw [List.mem_singleton.1 this]
                  exact ⟨by show _ < QB; omega, rfl⟩)
                have HW7a := hide hW7a
                clear hv7 hs7 hi7 hl7 hb7 ha7 hpz e11 hW7a hA8 hE7 HCg HD7 HO7 HR7 HDA6 HEA6 HOA6 HRA6 HFAR
                by_cases hz : (dgS l8).2 = 0
                · rw [if_pos hz] at HCs HS1
                  clear hz
                  go_wp2_with fail
                  refine HCs.out.mono ?_
                  rw [← HW7a.out]
                  rintro x W8 ⟨v8, l9, ns, rfl, hv8, hs8, hi8, hl8, hb8, ha8⟩
                  obtain ⟨z8, hE8, hz8, -⟩ := box_oneI HEA7.out ns hl8 hi8
                  have HV8 := hide (fun X h => hv8 X (HV7.out X h))
                  obtain ⟨a8, c8, hv⟩ : ∃ a c, v8 = .slice a l9.length c := by obtain ⟨a, c, h, -⟩ := HV8.out w HRV.out; exact ⟨a, c, h⟩
                  subst hv
                  have HD8 := hide ((HDA7.out.setAt _ ns (fun p hp => (HFA2.out _ p hp).1)).alike ha8 hb8)
                  have HE8 : Hid (Be W8 QB #[.int .i64 (pn : Int), .int .i64 (qn : Int), .int .i64 z8]) := hide ((ha8.block QB (by omega)).trans hE8)
                  have HO8 := hide (HOA7.out.same (fun g hg => (ha8.block g (by have := HOQ.out g hg; omega)).trans (setAtI_block _ _ ns g (fun p hp => by have h1 := HOQ.out g hg; have h2 := (HFA2.out _ p hp).2; omega))))
                  have HR8' : Hid (RowI W8 M xs) := hide (HRA7.out.keep ((ha8.block M (by omega)).trans (setAtI_block _ _ ns M (fun p hp => by have h2 := (HFA2.out _ p hp).2; omega))))
                  have HEI : Hid (EntI ⟨(pn : Int), (qn : Int), z8⟩) := hide ⟨HPI.out.1, HPI.out.2, hz8⟩
                  clear hv8 hs8 hi8 hl8 hb8 ha8 hE8 hz8 HCs
                  go_wp2_with fail
                  go_meet
                  exact ⟨false, (pn : Int), (qn : Int), z8, l9, a8, c8, rfl, hide (by rw [HS1.out]; rfl), hide (fun q h => by rw [HS1.out] at h; cases h), HEI, HD8, HE8, HO8, HR8', HV8⟩
                · rw [if_neg hz] at HCs HS1
                  have hzi := dgS_i l8
                  have HZI := hide hzi
                  generalize l8.drop (dgS l8).2 = l10 at *
                  generalize (dgS l8).1 = zz at *
                  clear hz hzi
                  go_wp2_with fail
                  refine HCs.out.mono ?_
                  rw [← HW7a.out]
                  rintro x W8 ⟨v8, l9, ns, rfl, hv8, hs8, hi8, hl8, hb8, ha8⟩
                  have hs9 := hs8 _ rfl
                  simp only [Prod.mk.injEq] at hs9
                  obtain ⟨hns, hll⟩ := hs9
                  subst hns hll
                  have HV8 := hide (fun X h => hv8 X (HV7.out X h))
                  obtain ⟨a8, c8, hv⟩ : ∃ a c, v8 = .slice a l10.length c := by obtain ⟨a, c, h, -⟩ := HV8.out w HRV.out; exact ⟨a, c, h⟩
                  subst hv
                  have HD8 := hide ((HDA7.out.setAt _ _ (fun p hp => (HFA2.out _ p hp).1)).alike ha8 hb8)
                  have HE8 : Hid (Be W8 QB #[.int .i64 (pn : Int), .int .i64 (qn : Int), .int .i64 zz]) := hide ((ha8.block QB (by omega)).trans (HEA7.out.set 2 (.int .i64 zz)))
                  have HO8 := hide (HOA7.out.same (fun g hg => (ha8.block g (by have := HOQ.out g hg; omega)).trans (setAtI_block _ _ _ g (fun p hp => by have h1 := HOQ.out g hg; have h2 := (HFA2.out _ p hp).2; omega))))
                  have HR8' : Hid (RowI W8 M xs) := hide (HRA7.out.keep ((ha8.block M (by omega)).trans (setAtI_block _ _ _ M (fun p hp => by have h2 := (HFA2.out _ p hp).2; omega))))
                  have HEI : Hid (EntI ⟨(pn : Int), (qn : Int), zz⟩) := hide ⟨HPI.out.1, HPI.out.2, HZI.out⟩
                  clear hv8 hs8 hi8 hl8 hb8 ha8 HCs
                  go_wp2_with fail
                  go_meet
                  exact ⟨true, (pn : Int), (qn : Int), zz, l10, a8, c8, rfl, hide (by rw [HS1.out]; rfl), hide (fun q h => by rw [HS1.out] at h; injection h with h; exact h.symm), HEI, HD8, HE8, HO8, HR8', HV8⟩
            case rest =>
              obtain ⟨W8, rfl⟩ : ∃ W, W = wc := ⟨_, rfl⟩
              obtain ⟨ok, x, y, z, l5, a5, c5, rfl, HOKS, HSS, HEI, HD8, HE8, HO8, HR8', HV8⟩ := hcut
              clear HCg HDA6 HEA6 HOA6 HRA6 HFAR HW6a HOQ
              obtain ⟨p7, f7⟩ := HD8.out.box.cell 7
              obtain ⟨r0, -⟩ := HE8.out.cell 0
              obtain ⟨r1, -⟩ := HE8.out.cell 1
              obtain ⟨r2, -⟩ := HE8.out.cell 2
              have hs8 : M + 1 ≤ W8.heap.size := HR8'.out.lt
              go_wp2_with (at_builtin; refine wpList_append_ent _ rfl _ _ rfl (M + 1) _ t rfl HO8.out ⟨x, y, z⟩ rfl (by omega) hs8 ?_)
              intro v9 W9 ho9 hb9
              obtain ⟨a9, c9, hv⟩ := ho9.shape
              subst hv
              have HD9 := hide (HD8.out.moreB (by omega) hb9)
              have HD10 := hide (HD9.out.setBox 7 (.slice a9 (t ++ [(⟨x, y, z⟩ : Ent)]).length c9))
              have HO10 : Hid (OwnE (W9.setCell ⟨w.heap.size + 1, 7, none⟩ (.slice a9 (t ++ [(⟨x, y, z⟩ : Ent)]).length c9)) (M + 1) (.slice a9 (t ++ [(⟨x, y, z⟩ : Ent)]).length c9) (t ++ [⟨x, y, z⟩])) := hide (ho9.same (fun g hg => Below.heap_setCell _ _ _ _ (by have h := World.ownsRow.lt ho9 g hg; show g ≠ w.heap.size + 1; omega)))
              have HR10 : Hid (RowI (W9.setCell ⟨w.heap.size + 1, 7, none⟩ (.slice a9 (t ++ [(⟨x, y, z⟩ : Ent)]).length c9)) M xs) := hide (HR8'.out.keep ((Below.heap_setCell _ _ _ _ (by show M ≠ w.heap.size + 1; omega)).trans (hb9.block M (by omega))))
              have HI10 : Hid (∀ e ∈ t ++ [(⟨x, y, z⟩ : Ent)], EntI e) := hide (fun e he => by
                rcases List.mem_append.1 he with h | h
                · exact hI.out e h
                · rw [List.mem_singleton.1 h]; exact HEI.out)
              obtain ⟨s7, g7⟩ := HD9.out.box.cell 7
              have hlt1 : (t ++ [(⟨x, y, z⟩ : Ent)]).length = t.length + 1 := by simp
              have HL1 := hide hlt1
              generalize hT2 : t ++ [(⟨x, y, z⟩ : Ent)] = T2 at *
              have HT2 := hide hT2
              clear ho9 hb9 hT2 hlt1 p7 f7 r0 r1 r2 HD8 HE8 HO8 HR8' HD9
              cases ok with
              | false =>
                have HF : Hid (RE = none) := hide (by
                  rw [HT1.out]
                  cases hs : step1 l2 with
                  | none => rfl
                  | some q => have := HOKS.out; rw [hs] at this; cases this)
                go_wp2
                go_roundw
                case rel => exact ⟨false, T2, l5, a5, c5, a9, c9, rfl, by have := HL1.out; omega, hide (fun h => by cases h), HD10, HO10, HI10, HR10, HV8, hide (fun h => by cases h), hide (fun _ => HF.out)⟩
                case measure => rw [HLW.out, leftW_not]; omega
              | true =>
                obtain ⟨q, hq⟩ : ∃ q, step1 l2 = some q := Option.isSome_iff_exists.1 HOKS.out.symm
                have hq2 := HSS.out q hq
                subst hq2
                have hless := HLS.out _ hq
                dsimp only at hless
                have HF : Hid (RE = (readE (mn - T2.length) l5).map (fun r => (T2 ++ r.1, r.2))) := hide (by
                  rw [HT1.out, hq, HL1.out, ← HT2.out, Option.bind_some]
                  cases readE (mn - (t.length + 1)) l5 with
                  | none => rfl
                  | some r => simp)
                have HLN : Hid (leftW (w.heap.size + 1 + 1 + 1 + 1 + 1) (.bool true) (W9.setCell ⟨w.heap.size + 1, 7, none⟩ (.slice a9 T2.length c9)) = l5.length + 1) := hide (leftW_at HD10.out.cap)
                clear hq
                go_wp2
                go_roundw
                case rel => exact ⟨true, T2, l5, a5, c5, a9, c9, rfl, by have := HL1.out; omega, hide (fun _ => ⟨by have := HL1.out; omega, by have := HL1.out; omega⟩), HD10, HO10, HI10, HR10, HV8, hide (fun _ => HF.out), hide (fun h => by cases h)⟩
                case measure => rw [HLW.out, HLN.out]; omega

end Go.Proofs.YtgpdbboieokldaaGreat
