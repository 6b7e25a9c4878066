import Derived.Test.YtpopbandpnaicaaGreatDoorSnapDecA
namespace Go.Proofs.YtpopbandpnaicaaGreatDoor
open Go.RowKit

def step1 (b : List UInt8) : Option (Ent × List UInt8) :=
 match getsL 2 b with
 | none => none
 | some (ns, l) => if (dec64 l).2 = 0 then none else some (⟨((ns.getD 0 0 : Nat) : Int), ((ns.getD 1 0 : Nat) : Int), zag (dec64 l).1⟩, l.drop (dec64 l).2)

theorem getsL_one (b : List UInt8) : getsL 1 b = if (dec62 b).2 = 0 then none else some ([(dec62 b).1], b.drop (dec62 b).2) := rfl

theorem getsL_two (b : List UInt8) : getsL 2 b = if (dec62 b).2 = 0 then none else if (dec62 (b.drop (dec62 b).2)).2 = 0 then none else some ([(dec62 b).1, (dec62 (b.drop (dec62 b).2)).1], (b.drop (dec62 b).2).drop (dec62 (b.drop (dec62 b).2)).2) := by
 rw [getsL]
 split
 · rfl
 · rw [getsL_one]
   split <;> rfl

theorem readE_step1 (n : Nat) (b : List UInt8) : readE (n + 1) b = (step1 b).bind (fun y => (readE n y.2).map (fun r => (y.1 :: r.1, r.2))) := by
 have h : readE (n + 1) b = if (dec62 b).2 = 0 ∨ (dec62 (b.drop (dec62 b).2)).2 = 0 ∨ (dec64 (b.drop ((dec62 b).2 + (dec62 (b.drop (dec62 b).2)).2))).2 = 0 then none
   else (readE n (b.drop ((dec62 b).2 + (dec62 (b.drop (dec62 b).2)).2 + (dec64 (b.drop ((dec62 b).2 + (dec62 (b.drop (dec62 b).2)).2))).2))).map (fun r => (⟨(dec62 b).1, (dec62 (b.drop (dec62 b).2)).1, zag (dec64 (b.drop ((dec62 b).2 + (dec62 (b.drop (dec62 b).2)).2))).1⟩ :: r.1, r.2)) := rfl
 rw [h]
 unfold step1
 rw [getsL_two]
 by_cases h1 : (dec62 b).2 = 0
 · rw [if_pos (.inl h1), if_pos h1]
   rfl
 rw [if_neg h1]
 by_cases h2 : (dec62 (b.drop (dec62 b).2)).2 = 0
 · rw [if_pos (.inr (.inl h2)), if_pos h2]
   rfl
 rw [if_neg h2]
 simp only [List.drop_drop]
 by_cases h3 : (dec64 (b.drop ((dec62 b).2 + (dec62 (b.drop (dec62 b).2)).2))).2 = 0
 · rw [if_pos (.inr (.inr h3)), if_pos h3]
   rfl
 · rw [if_neg (by omega), if_neg h3]
   rfl

def GotE (w : World) (v : Value) (b : List UInt8) (e : Ending) (w' : World) : Prop :=
 ∃ (x : Ent) (v' : Value) (l : List UInt8), e = .returned (.tuple #[entV x, v', .bool (step1 b).isSome]) ∧ EntI x ∧ (∀ W, Rd W v b -> Rd W v' l) ∧ (∀ y, step1 b = some y -> y = (x, l)) ∧ Below w.heap.size w w'

theorem dec64_nilE : dec64 [] = (0, 0) := by decide

theorem box_two {W : World} {R : Nat} (h : Be W R #[.int .i64 0, .int .i64 0, .int .i64 0]) (ns : List Nat) (hn : ns.length <= 2) (hns : ∀ n ∈ ns, n < 4611686018427387904) :
   ∃ x y : Int, Be (setAt W ([(R, 0), (R, 1)].take ns.length) ns) R #[.int .i64 x, .int .i64 y, .int .i64 0] ∧ I64 x ∧ I64 y ∧ (ns.length = 2 -> x = ((ns.getD 0 0 : Nat) : Int) ∧ y = ((ns.getD 1 0 : Nat) : Int)) := by
 have i0 : I64 0 := i64_small (by decide) (by decide)
 match ns, hn, hns with
 | [], _, _ => exact ⟨0, 0, h, i0, i0, fun h => absurd h (by simp)⟩
 | [n], _, hns =>
   have := hns n (by simp)
   refine ⟨(n : Int), 0, ?_, ⟨by omega, by omega⟩, i0, fun h => absurd h (by simp)⟩
   have h2 := heap_setCell_same W R 0 _ _ (.int .i64 (n : Int)) h
   exact h2
 | [n, m], _, hns =>
   have h1 := hns n (by simp)
   have h2 := hns m (by simp)
   refine ⟨(n : Int), (m : Int), ?_, ⟨by omega, by omega⟩, ⟨by omega, by omega⟩, fun _ => ⟨rfl, rfl⟩⟩
   have h3 := heap_setCell_same W R 0 _ _ (.int .i64 (n : Int)) h
   exact heap_setCell_same _ R 1 _ _ (.int .i64 (m : Int)) h3

theorem three_new (w : World) (x y z : Obj) : ((((w.alloc x).alloc y).alloc z).heap[w.heap.size]? = some x ∧ (((w.alloc x).alloc y).alloc z).heap[w.heap.size + 1]? = some y ∧ (((w.alloc x).alloc y).alloc z).heap[w.heap.size + 2]? = some z) := by
 refine ⟨?_, ?_, ?_⟩
 · exact ((Below.heap_alloc _ _ _ (by simp; omega)).trans (Below.heap_alloc _ _ _ (by simp))).trans (heap_alloc_new w x)
 · refine (Below.heap_alloc _ _ _ (by simp)).trans ?_
   have := heap_alloc_new (w.alloc x) y
   simpa using this
 · have := heap_alloc_new ((w.alloc x).alloc y) z
   simpa using this

theorem Be.set {w : World} {b : Nat} {cs : Array Value} (h : Be w b cs) (j : Nat) (x : Value) : Be (w.setCell ⟨b, j, none⟩ x) b (cs.setIfInBounds j x) := by
 have := heap_setCell_same w b j _ _ x h
 unfold Be
 simpa using this

theorem Be.other {w : World} {b c : Nat} {cs : Array Value} (h : Be w b cs) (j : Nat) (x : Value) (hne : b ≠ c) : Be (w.setCell ⟨c, j, none⟩ x) b cs := (Below.heap_setCell _ _ _ _ hne).trans h

theorem belowTri {C : Nat} {w0 w : World} (h : Below C w0 w) (R : Nat) (hR : C <= R) (x0 x1 x2 : Value) : Below C w0 (((w.setCell ⟨R, 0, none⟩ x0).setCell ⟨R, 1, none⟩ x1).setCell ⟨R, 2, none⟩ x2) :=
 ((h.setCell hR _).setCell hR _).setCell hR _

set_option maxRecDepth 100000 in
set_option maxHeartbeats 4000000 in
theorem getEntry_any (v : Value) (b : List UInt8) (w : World) (hr : Rd w v b) :
   Calls Tryz.prog 205 #[v] w fun e w' => GotE w v b e w' := by
 obtain ⟨W0, hW0⟩ : ∃ W0, W0 = ((w.alloc (.cells #[.int .i64 0, .int .i64 0, .int .i64 0] 88)).alloc (.cells #[.int .i64 0, .int .i64 0, .int .i64 0] 88)).alloc (.cells #[.pointer (some ⟨w.heap.size + 1, 0, none⟩), .pointer (some ⟨w.heap.size + 1, 1, none⟩)] 210) := ⟨_, rfl⟩
 have h3 := three_new w (.cells #[.int .i64 0, .int .i64 0, .int .i64 0] 88) (.cells #[.int .i64 0, .int .i64 0, .int .i64 0] 88) (.cells #[.pointer (some ⟨w.heap.size + 1, 0, none⟩), .pointer (some ⟨w.heap.size + 1, 1, none⟩)] 210)
 rw [<- hW0] at h3
 obtain ⟨hA, hB, hC⟩ := h3
 have HB0 : Hid (Below w.heap.size w W0) := hide (by rw [hW0]; exact (((Below.refl _ _).alloc (Nat.le_refl _) _).alloc (by simp) _).alloc (by simp; omega) _)
 have hEA : Be W0 w.heap.size #[.int .i64 0, .int .i64 0, .int .i64 0] := hA
 have hEB : Be W0 (w.heap.size + 1) #[.int .i64 0, .int .i64 0, .int .i64 0] := hB
 have HEA := hide hEA
 have HGN := hide (getNumbers_any (w.heap.size + 1 + 1) [(w.heap.size + 1, 0), (w.heap.size + 1, 1)] v b W0 (hr.below HB0.out (Nat.le_refl _)) (fun p hp => by
   simp only [List.mem_cons, List.not_mem_nil, or_false] at hp
   rcases hp with rfl | rfl
   · exact ⟨⟨⟨0, (hEB.cell 0).1⟩, (hEB.cell 0).2⟩, by simp⟩
   · exact ⟨⟨⟨0, (hEB.cell 1).1⟩, (hEB.cell 1).2⟩, by simp⟩) (by simp) hC 2 rfl)
 have HBX := hide (fun ns => box_two hEB ns)
 have HSB : Hid (∀ ns, Below w.heap.size w (setAt W0 ([(w.heap.size + 1, 0), (w.heap.size + 1, 1)].take (List.length ns)) ns)) := hide (fun ns => setAt_below W0 _ ns _ w (fun p hp => by
   have := List.mem_of_mem_take hp
   simp only [List.mem_cons, List.not_mem_nil, or_false] at this
   rcases this with rfl | rfl <;> simp) HB0.out)
 have HSA : Hid (∀ ns, Be (setAt W0 ([(w.heap.size + 1, 0), (w.heap.size + 1, 1)].take (List.length ns)) ns) w.heap.size #[.int .i64 0, .int .i64 0, .int .i64 0]) := hide (fun ns => (setAt_block W0 _ ns _ (fun p hp => by
   have := List.mem_of_mem_take hp
   simp only [List.mem_cons, List.not_mem_nil, or_false] at this
   rcases this with rfl | rfl <;> simp)).trans hEA)
 have HG := hide (fun v1 l W h => getSigned_any v1 l W h)
 have HST : Hid (step1 b = match getsL [(w.heap.size + 1, 0), (w.heap.size + 1, 1)].length b with | none => none | some (ns, l) => if (dec64 l).2 = 0 then none else some (⟨((ns.getD 0 0 : Nat) : Int), ((ns.getD 1 0 : Nat) : Int), zag (dec64 l).1⟩, l.drop (dec64 l).2)) := hide rfl
 have HLN : Hid (∀ ns l, getsL [(w.heap.size + 1, 0), (w.heap.size + 1, 1)].length b = some (ns, l) -> ns.length = 2) := hide (fun ns l h => by
   have h2 : getsL 2 b = some (ns, l) := h
   rw [getsL_two] at h2
   split at h2
   · cases h2
   split at h2
   · cases h2
   injection h2 with h2
   injection h2 with h2 _
   rw [<- h2]
   rfl)
 unfold GotE
 obtain ⟨S1, hS1⟩ : ∃ S1, S1 = step1 b := ⟨_, rfl⟩
 rw [<- hS1] at HST ⊢
 obtain ⟨ok, hok⟩ : ∃ ok, ok = S1.isSome := ⟨_, rfl⟩
 rw [<- hok]
 have HOKS := hide hok
 clear hok
 generalize getsL [(w.heap.size + 1, 0), (w.heap.size + 1, 1)].length b = GL at *
 have HRW := hide hr
 obtain ⟨va, vc, hv⟩ : ∃ a c, v = .slice a b.length c := by obtain ⟨a, c, h, -⟩ := hr; exact ⟨a, c, h⟩
 subst hv
 clear hr hA hB hC hEA hEB hS1
 go_enter Tryz.func205, Tryz.ntmps205
 go_wp2_with fail
 rw [<- hW0]
 refine HGN.out.mono ?_
 rintro e W1 ⟨v1, l, ns, rfl, hr1, hn1, hs1, hlt1, hle1, hal1⟩
 obtain ⟨x, y, hbx, hxi, hyi, hxy⟩ := HBX.out ns hle1 hlt1
 have HE1 : Hid (Be W1 (w.heap.size + 1) #[.int .i64 x, .int .i64 y, .int .i64 0]) := hide (hbx.below (hal1.below (setAt W0 ([(w.heap.size + 1, 0), (w.heap.size + 1, 1)].take ns.length) ns).heap.size) (Nat.le_refl _))
 have HA1 : Hid (Be W1 w.heap.size #[.int .i64 0, .int .i64 0, .int .i64 0]) := hide ((HSA.out ns).below (hal1.below (setAt W0 ([(w.heap.size + 1, 0), (w.heap.size + 1, 1)].take ns.length) ns).heap.size) (Nat.le_refl _))
 have HB1 : Hid (Below w.heap.size w W1) := hide ((HSB.out ns).trans (hal1.below _))
 have HR1 := hide (hr1 W1 (HRW.out.below HB1.out (Nat.le_refl _)))
 have HV1 := hide hr1
 obtain ⟨a1, c1, hv1⟩ : ∃ a c, v1 = .slice a l.length c := by obtain ⟨a, c, h, -⟩ := HR1.out; exact ⟨a, c, h⟩
 subst hv1
 have hcap : l.length <= c1 := by
   obtain ⟨a', c', h, h2, -⟩ := HR1.out
   simp only [Value.slice.injEq] at h
   omega
 have HGQ := hide (HG.out _ l W1 HR1.out)
 have hkl := dec64_le l
 have hZI : I64 (zag (dec64 l).1) := zag_i64 (dec64_lt l)
 obtain ⟨xa, xc, hcut, hcr⟩ := cut_from a1 l c1 hcap (dec64 l).2 hkl
 have HCR := hide (fun W h => hcr W (HV1.out W h))
 have HOK : Hid (S1.isSome = decide (0 < (dec64 l).2)) := hide (by
   rw [HST.out]
   cases GL with
   | none => rw [hn1 rfl, dec64_nilE]; rfl
   | some p =>
     have := hs1 p rfl
     subst this
     dsimp only
     by_cases h : (dec64 l).2 = 0
     · rw [if_pos h, h]; rfl
     · rw [if_neg h, decide_eq_true (by omega)]; rfl)
 have HSO : Hid (∀ z, S1 = some z -> z = (⟨x, y, zag (dec64 l).1⟩, l.drop (dec64 l).2)) := hide (fun z hz => by
   rw [HST.out] at hz
   cases GL with
   | none => cases hz
   | some p =>
     have := hs1 p rfl
     subst this
     obtain ⟨h1, h2⟩ := hxy (HLN.out ns l rfl)
     dsimp only at hz
     split at hz
     · cases hz
     · injection hz with hz
       rw [<- hz, h1, h2])
 have HXI : Hid (EntI ⟨x, y, zag (dec64 l).1⟩) := hide ⟨hxi, hyi, hZI⟩
 clear hr1 hn1 hs1 hlt1 hle1 hal1 hbx hxy HST HLN HSB HSA HBX HGN HG hcr hcap HB0 HEA hW0 hxi hyi hZI
 generalize zag (dec64 l).1 = z at *
 generalize (dec64 l).2 = k at *
 generalize l.drop k = l2 at *
 have hk1 : S1.isSome = decide ((0 : Int) < (k : Int)) := by rw [HOK.out]; exact decide_eq_decide.2 (by omega)
 rw [<- HOKS.out] at hk1
 have HK1 : Hid (decide (0 < k) = ok) := hide (by rw [HOKS.out, HOK.out])
 clear HOKS hk1 HOK
 go_wp2_with fail
 refine HGQ.out.mono ?_
 rintro e W2 ⟨rfl, hw2⟩
 rw [hw2]
 clear hw2 W2 HGQ
 have HE2 : Hid (Be (W1.setCell ⟨w.heap.size + 1, 2, none⟩ (.int .i64 z)) (w.heap.size + 1) #[.int .i64 x, .int .i64 y, .int .i64 z]) := hide (HE1.out.set 2 _)
 have HA2 : Hid (Be (W1.setCell ⟨w.heap.size + 1, 2, none⟩ (.int .i64 z)) w.heap.size #[.int .i64 0, .int .i64 0, .int .i64 0]) := hide (HA1.out.other 2 _ (by omega))
 obtain ⟨e2, f2⟩ := HE1.out.cell 2
 have HB2 : Hid (Below w.heap.size w (W1.setCell ⟨w.heap.size + 1, 2, none⟩ (.int .i64 z))) := hide (HB1.out.setCell (Nat.le_succ _) _)
 go_upto_region 5 with fail
 obtain ⟨W3, hW3⟩ : ∃ W3, W3 = W1.setCell ⟨w.heap.size + 1, 2, none⟩ (.int .i64 z) := ⟨_, rfl⟩
 rw [<- hW3] at HE2 HA2 HB2 ⊢
 clear hW3 e2 f2 HE1 HA1 HB1 HR1
 obtain ⟨x0, g0⟩ := HE2.out.cell 0
 obtain ⟨x1, g1⟩ := HE2.out.cell 1
 obtain ⟨x2, g2⟩ := HE2.out.cell 2
 obtain ⟨y0, m0⟩ := HA2.out.cell 0
 obtain ⟨y1, m1⟩ := HA2.out.cell 1
 obtain ⟨y2, m2⟩ := HA2.out.cell 2
 have hne1 : ¬ (w.heap.size = w.heap.size + 1) := by omega
 have hne2 : ¬ (w.heap.size + 1 = w.heap.size) := by omega
 have hbs := belowTri HB2.out.drew w.heap.size (Nat.le_refl _) (.int .i64 x) (.int .i64 y) (.int .i64 z)
 have HBS := hide hbs
 clear hbs HB2 HA2 HE2
 go_region
 all_goals
   go_wp2
   refine bodyPost_ret (v := .tuple #[.agg #[.int .i64 x, .int .i64 y, .int .i64 z], .slice xa l2.length xc, .bool ok]) (by simp [results, Tryz.results205, go_sem, y0, y1, y2, HK1.out]) rfl ?_
   exact ⟨⟨x, y, z⟩, _, l2, rfl, HXI.out, HCR.out, HSO.out, HBS.out⟩

end Go.Proofs.YtpopbandpnaicaaGreatDoor
