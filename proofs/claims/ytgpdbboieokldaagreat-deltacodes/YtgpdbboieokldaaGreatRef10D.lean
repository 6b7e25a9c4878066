/- Contract of ferrymanref10: read. -/
import Derived.Test.YtgpdbboieokldaaGreatRef10C
namespace Go.Proofs.YtgpdbboieokldaaGreat
open Go.RowKit

def gFive (ns : List Nat) (l : List UInt8) : Option Delt := if 128 < ns.getD 4 0 then none else (getsG dgS (ns.getD 4 0) l).bind (fun q => restD (ns.getD 0 0) (ns.getD 1 0) (ns.getD 2 0) (ns.getD 3 0) q.1 q.2)

theorem readD_fine (b : List UInt8) : readD b = (getsL 5 b).bind (fun r => gFive r.1 r.2) := by
  rw [readD_eq]
  cases getsL 5 b with
  | none => rfl
  | some r =>
    simp only [Option.bind_some]
    unfold gFive
    split
    · rfl
    · rw [getsG_S]
      cases readL (r.1.getD 4 0) r.2 <;> rfl

/-- The delta that is read, but for its table. -/
def dOf (n1 n2 n3 n4 : Nat) (xs : List Int) (s : Nat) (t : List Ent) : Delt := ⟨(n1 : Nat), (n2 : Nat), (n3 : Nat), (n4 : Nat), xs, decide (0 < s), if 0 < s then (s : Int) - 1 else 0, t⟩

def gTwo (n1 n2 n3 n4 : Nat) (xs : List Int) (ns : List Nat) (l : List UInt8) : Option Delt := if 3 < ns.getD 0 0 then none else (readE (ns.getD 1 0) l).bind (fun z => if z.2 = [] then some (dOf n1 n2 n3 n4 xs (ns.getD 0 0) z.1) else none)

def gOne (n1 n2 n3 n4 : Nat) (xs : List Int) (sn : Nat) (ns : List Nat) (l : List UInt8) : Option Delt := (readE (ns.getD 0 0) l).bind (fun z => if z.2 = [] then some (dOf n1 n2 n3 n4 xs sn z.1) else none)

def gEnd (n1 n2 n3 n4 : Nat) (xs : List Int) (sh : Bool) (g : Int) (tt : List Ent) (y : List UInt8) : Option Delt := if y = [] then some ⟨(n1 : Nat), (n2 : Nat), (n3 : Nat), (n4 : Nat), xs, sh, g, tt⟩ else none

theorem restD_fine (n1 n2 n3 n4 : Nat) (xs : List Int) (m : List UInt8) : restD n1 n2 n3 n4 xs m = (getsL 2 m).bind (fun r => gTwo n1 n2 n3 n4 xs r.1 r.2) := rfl

theorem RdI.keepB {w w' : World} {v : Value} {l : List Int} (h : RdI w v l) (hk : ∀ g, v.ownBlock = some g → w'.heap[g]? = w.heap[g]?) : RdI w' v l := by
  obtain ⟨ao, cap, rfl, h1, h2, h3, h4, h5⟩ := h
  refine ⟨ao, cap, rfl, h1, h2, h3, h4, ?_⟩
  rcases h5 with h5 | ⟨c, off, rfl, hc⟩
  · exact .inl h5
  · exact .inr ⟨c, off, rfl, fun j hj => (World.cell?_of_block (a := ⟨c, off + j, none⟩) (hk c rfl)).trans (hc j hj)⟩

theorem OwnI.same {w w' : World} {B : Nat} {v : Value} {l : List Int} (h : OwnI w B v l) (hk : ∀ g, v.ownBlock = some g → w'.heap[g]? = w.heap[g]?) : OwnI w' B v l := by
  obtain ⟨h1, h2⟩ := h
  refine ⟨h1, ?_⟩
  rcases h2 with h2 | ⟨g, cap, cur, hv, hbg, hg, r⟩
  · exact .inl h2
  · exact .inr ⟨g, cap, cur, hv, hbg, (hk g (by rw [hv]; rfl)).trans hg, r⟩

set_option linter.unusedSimpArgs false in
set_option maxRecDepth 100000 in
set_option maxHeartbeats 40000000 in
theorem refRead_any (v : Value) (b : List UInt8) (w : World) (hr : Rd w v b) (hlim : b.length ≤ 900000) :
    Calls Tryz.prog 25 #[v] w fun e w' => ReadDl w (readD b) e w' := by
  obtain ⟨va, vc, hv⟩ : ∃ a c, v = .slice a b.length c := by obtain ⟨a, c, h, -⟩ := hr; exact ⟨a, c, h⟩
  subst hv
  obtain ⟨W0, hW0⟩ : ∃ W0, W0 = ((w.alloc (.cells #[.int .i64 0, .int .i64 0, .int .i64 0, .int .i64 0, .slice none 0 0, .bool false, .int .i64 0, .slice none 0 0] 25)).alloc (.cells #[.slice va b.length vc, .bool true] 88)).alloc (.cells #[.int .i64 0, .int .i64 0, .int .i64 0, .int .i64 0, .slice none 0 0, .bool false, .int .i64 0, .slice none 0 0] 25) := ⟨_, rfl⟩
  have HD : Hid (RIn w W0 #[.int .i64 0, .int .i64 0, .int .i64 0, .int .i64 0, .slice none 0 0, .bool false, .int .i64 0, .slice none 0 0] (.slice va b.length vc) true) := hide (by rw [hW0]; exact rin_start w _ _ _ rfl rfl)
  obtain ⟨l0, hl0⟩ : ∃ l0, l0 = b := ⟨_, rfl⟩
  obtain ⟨f0, hf0⟩ : ∃ f0, f0 = true := ⟨_, rfl⟩
  have HV : Hid (∀ X, Rd X (.slice va b.length vc) b → Rd X (.slice va b.length vc) l0) := hide (fun X h => by rw [hl0]; exact h)
  have HRV := hide hr
  obtain ⟨RD, hRD⟩ : ∃ RD, RD = readD b := ⟨_, rfl⟩
  rw [← hRD]
  have HT : Hid (f0 = true → RD = (getsL (4 + 1) l0).bind (fun r => gFive r.1 r.2)) := hide (fun _ => by rw [hRD, hl0]; exact readD_fine b)
  have HN0 : Hid (f0 = false → RD = none) := hide (fun h => by rw [hf0] at h; cases h)
  rw [← hf0] at HD
  have HLB : Hid (l0.length ≤ 900000) := hide (by rw [hl0]; exact hlim)
  have HW0 := hide hW0
  clear hW0 hl0 hf0 hr hRD hlim
  go_enter Tryz.func25, Tryz.ntmps25
  go_upto_region 3 with fail
  rw [← HW0.out]
  clear HW0
  have HC := hide (getAt HD.out HRV.out HV.out)
  have HFS := hide (fine_step (n := 4) (G := fun ns l => gFive (ns) l) HT.out HN0.out)
  have hn1 := dec62_lt' l0
  have HL1 : Hid ((l0.drop (dec62 l0).2).length ≤ l0.length) := hide (by rw [List.length_drop]; omega)
  unfold GotR at HC
  obtain ⟨f1, hf1⟩ : ∃ f, f = (f0 && decide (0 < (dec62 l0).2)) := ⟨_, rfl⟩
  rw [← hf1] at HC HFS
  generalize l0.drop (dec62 l0).2 = l1 at *
  generalize (dec62 l0).1 = n1 at *
  clear hf1 HT HN0
  go_wp2_with fail
  refine HC.out.mono ?_
  rintro e V1 ⟨a1, c1, rfl, hv, hd, ha⟩
  have HV := hide hv
  have HD := hide hd
  obtain ⟨HT, HN0⟩ : Hid _ ∧ Hid _ := ⟨hide HFS.out.1, hide HFS.out.2⟩
  clear hv hd ha HC HFS
  obtain ⟨⟨p0, p1, p2, p3, p4, p5, p6, p7⟩, q0, q1, q2, q3, q4, q5, q6, q7⟩ := HD.out.box.all
  have HD' := hide (HD.out.setBox 0 (.int .i64 (n1 : Int)))
  obtain ⟨U1, hU1⟩ : ∃ U, U = V1.setCell ⟨w.heap.size + 1 + 1, 0, none⟩ (.int .i64 (n1 : Int)) := ⟨_, rfl⟩
  rw [← hU1] at HD'
  have HU := hide hU1
  clear hU1 HD
  have HD : Hid (RIn w U1 #[.int .i64 (n1 : Int), .int .i64 0, .int .i64 0, .int .i64 0, .slice none 0 0, .bool false, .int .i64 0, .slice none 0 0] (.slice a1 l1.length c1) f1) := hide HD'.out
  clear HD'
  go_upto_region 4 with fail
  rw [← HU.out]
  clear HU p0 p1 p2 p3 p4 p5 p6 p7 q0 q1 q2 q3 q4 q5 q6 q7
  have HC := hide (getAt HD.out HRV.out HV.out)
  have HFS := hide (fine_step (n := 3) (G := fun ns l => gFive (n1 :: ns) l) HT.out HN0.out)
  have hn2 := dec62_lt' l1
  have HL2 : Hid ((l1.drop (dec62 l1).2).length ≤ l1.length) := hide (by rw [List.length_drop]; omega)
  unfold GotR at HC
  obtain ⟨f2, hf2⟩ : ∃ f, f = (f1 && decide (0 < (dec62 l1).2)) := ⟨_, rfl⟩
  rw [← hf2] at HC HFS
  generalize l1.drop (dec62 l1).2 = l2 at *
  generalize (dec62 l1).1 = n2 at *
  clear hf2 HT HN0
  go_wp2_with fail
  refine HC.out.mono ?_
  rintro e V2 ⟨a2, c2, rfl, hv, hd, ha⟩
  have HV := hide hv
  have HD := hide hd
  obtain ⟨HT, HN0⟩ : Hid _ ∧ Hid _ := ⟨hide HFS.out.1, hide HFS.out.2⟩
  clear hv hd ha HC HFS
  obtain ⟨⟨p0, p1, p2, p3, p4, p5, p6, p7⟩, q0, q1, q2, q3, q4, q5, q6, q7⟩ := HD.out.box.all
  have HD' := hide (HD.out.setBox 1 (.int .i64 (n2 : Int)))
  obtain ⟨U2, hU2⟩ : ∃ U, U = V2.setCell ⟨w.heap.size + 1 + 1, 1, none⟩ (.int .i64 (n2 : Int)) := ⟨_, rfl⟩
  rw [← hU2] at HD'
  have HU := hide hU2
  clear hU2 HD
  have HD : Hid (RIn w U2 #[.int .i64 (n1 : Int), .int .i64 (n2 : Int), .int .i64 0, .int .i64 0, .slice none 0 0, .bool false, .int .i64 0, .slice none 0 0] (.slice a2 l2.length c2) f2) := hide HD'.out
  clear HD'
  go_upto_region 5 with fail
  rw [← HU.out]
  clear HU p0 p1 p2 p3 p4 p5 p6 p7 q0 q1 q2 q3 q4 q5 q6 q7
  have HC := hide (getAt HD.out HRV.out HV.out)
  have HFS := hide (fine_step (n := 2) (G := fun ns l => gFive (n1 :: n2 :: ns) l) HT.out HN0.out)
  have hn3 := dec62_lt' l2
  have HL3 : Hid ((l2.drop (dec62 l2).2).length ≤ l2.length) := hide (by rw [List.length_drop]; omega)
  unfold GotR at HC
  obtain ⟨f3, hf3⟩ : ∃ f, f = (f2 && decide (0 < (dec62 l2).2)) := ⟨_, rfl⟩
  rw [← hf3] at HC HFS
  generalize l2.drop (dec62 l2).2 = l3 at *
  generalize (dec62 l2).1 = n3 at *
  clear hf3 HT HN0
  go_wp2_with fail
  refine HC.out.mono ?_
  rintro e V3 ⟨a3, c3, rfl, hv, hd, ha⟩
  have HV := hide hv
  have HD := hide hd
  obtain ⟨HT, HN0⟩ : Hid _ ∧ Hid _ := ⟨hide HFS.out.1, hide HFS.out.2⟩
  clear hv hd ha HC HFS
  obtain ⟨⟨p0, p1, p2, p3, p4, p5, p6, p7⟩, q0, q1, q2, q3, q4, q5, q6, q7⟩ := HD.out.box.all
  have HD' := hide (HD.out.setBox 2 (.int .i64 (n3 : Int)))
  obtain ⟨U3, hU3⟩ : ∃ U, U = V3.setCell ⟨w.heap.size + 1 + 1, 2, none⟩ (.int .i64 (n3 : Int)) := ⟨_, rfl⟩
  rw [← hU3] at HD'
  have HU := hide hU3
  clear hU3 HD
  have HD : Hid (RIn w U3 #[.int .i64 (n1 : Int), .int .i64 (n2 : Int), .int .i64 (n3 : Int), .int .i64 0, .slice none 0 0, .bool false, .int .i64 0, .slice none 0 0] (.slice a3 l3.length c3) f3) := hide HD'.out
  clear HD'
  go_upto_region 6 with fail
  rw [← HU.out]
  clear HU p0 p1 p2 p3 p4 p5 p6 p7 q0 q1 q2 q3 q4 q5 q6 q7
  have HC := hide (getAt HD.out HRV.out HV.out)
  have HFS := hide (fine_step (n := 1) (G := fun ns l => gFive (n1 :: n2 :: n3 :: ns) l) HT.out HN0.out)
  have hn4 := dec62_lt' l3
  have HL4 : Hid ((l3.drop (dec62 l3).2).length ≤ l3.length) := hide (by rw [List.length_drop]; omega)
  unfold GotR at HC
  obtain ⟨f4, hf4⟩ : ∃ f, f = (f3 && decide (0 < (dec62 l3).2)) := ⟨_, rfl⟩
  rw [← hf4] at HC HFS
  generalize l3.drop (dec62 l3).2 = l4 at *
  generalize (dec62 l3).1 = n4 at *
  clear hf4 HT HN0
  go_wp2_with fail
  refine HC.out.mono ?_
  rintro e V4 ⟨a4, c4, rfl, hv, hd, ha⟩
  have HV := hide hv
  have HD := hide hd
  obtain ⟨HT, HN0⟩ : Hid _ ∧ Hid _ := ⟨hide HFS.out.1, hide HFS.out.2⟩
  clear hv hd ha HC HFS
  obtain ⟨⟨p0, p1, p2, p3, p4, p5, p6, p7⟩, q0, q1, q2, q3, q4, q5, q6, q7⟩ := HD.out.box.all
  have HD' := hide (HD.out.setBox 3 (.int .i64 (n4 : Int)))
  obtain ⟨U4, hU4⟩ : ∃ U, U = V4.setCell ⟨w.heap.size + 1 + 1, 3, none⟩ (.int .i64 (n4 : Int)) := ⟨_, rfl⟩
  rw [← hU4] at HD'
  have HU := hide hU4
  clear hU4 HD
  have HD : Hid (RIn w U4 #[.int .i64 (n1 : Int), .int .i64 (n2 : Int), .int .i64 (n3 : Int), .int .i64 (n4 : Int), .slice none 0 0, .bool false, .int .i64 0, .slice none 0 0] (.slice a4 l4.length c4) f4) := hide HD'.out
  clear HD'
  go_upto_region 7 with fail
  rw [← HU.out]
  clear HU p0 p1 p2 p3 p4 p5 p6 p7 q0 q1 q2 q3 q4 q5 q6 q7
  have HC := hide (getAt HD.out HRV.out HV.out)
  have HFS := hide (fine_step (n := 0) (G := fun ns l => gFive (n1 :: n2 :: n3 :: n4 :: ns) l) HT.out HN0.out)
  have hn5 := dec62_lt' l4
  have HL5 : Hid ((l4.drop (dec62 l4).2).length ≤ l4.length) := hide (by rw [List.length_drop]; omega)
  unfold GotR at HC
  obtain ⟨f5, hf5⟩ : ∃ f, f = (f4 && decide (0 < (dec62 l4).2)) := ⟨_, rfl⟩
  rw [← hf5] at HC HFS
  generalize l4.drop (dec62 l4).2 = l5 at *
  generalize (dec62 l4).1 = n5 at *
  clear hf5 HT HN0
  go_wp2_with fail
  refine HC.out.mono ?_
  rintro e V5 ⟨a5, c5, rfl, hv, hd, ha⟩
  have HV := hide hv
  have HD := hide hd
  obtain ⟨HT, HN0⟩ : Hid _ ∧ Hid _ := ⟨hide HFS.out.1, hide HFS.out.2⟩
  clear hv hd ha HC HFS
  have HG5 : Hid (f5 = true → RD = if 128 < n5 then none else (getsG dgS n5 l5).bind (fun q => restD n1 n2 n3 n4 q.1 q.2)) := hide (fun h => HT.out h)
  have HLM : Hid (l5.length ≤ 900000) := hide (by have h1 := HL1.out; have h2 := HL2.out; have h3 := HL3.out; have h4 := HL4.out; have h5 := HL5.out; have h6 := HLB.out; omega)
  clear HT HL1 HL2 HL3 HL4 HL5 HLB
  have HNI : Hid (∀ x ∈ [n1, n2, n3, n4], I64 ((x : Nat) : Int)) := hide (fun x hx => by
    simp only [List.mem_cons, List.not_mem_nil, or_false] at hx
    rcases hx with rfl | rfl | rfl | rfl
    · exact ⟨by omega, by omega⟩
    · exact ⟨by omega, by omega⟩
    · exact ⟨by omega, by omega⟩
    · exact ⟨by omega, by omega⟩)
  have HEZ : Hid (∀ (W : World) (xs : List Int) (xa : Option Addr) (xc : Nat) (f : Bool) (vb : Value), RIn w W #[.int .i64 (n1 : Int), .int .i64 (n2 : Int), .int .i64 (n3 : Int), .int .i64 (n4 : Int), .slice xa xs.length xc, .bool false, .int .i64 0, .slice none 0 0] vb f → RdI W (.slice xa xs.length xc) xs → (∀ k, (Value.slice xa xs.length xc).ownBlock = some k → w.heap.size + 1 + 1 < k) → RD = none → ReadDl w RD (.returned (.tuple #[.agg #[.int .i64 (n1 : Int), .int .i64 (n2 : Int), .int .i64 (n3 : Int), .int .i64 (n4 : Int), .slice xa xs.length xc, .bool false, .int .i64 0, .slice none 0 0], .bool false])) (eight W w.heap.size (.int .i64 (n1 : Int)) (.int .i64 (n2 : Int)) (.int .i64 (n3 : Int)) (.int .i64 (n4 : Int)) (.slice xa xs.length xc) (.bool false) (.int .i64 0) (.slice none 0 0))) := hide (fun W xs xa xc f vb h1 h2 h3 h4 => by
    rw [h4]
    have hbt := butEight W w.heap.size (.int .i64 (n1 : Int)) (.int .i64 (n2 : Int)) (.int .i64 (n3 : Int)) (.int .i64 (n4 : Int)) (.slice xa xs.length xc) (.bool false) (.int .i64 0) (.slice none 0 0)
    exact ⟨⟨(n1 : Nat), (n2 : Nat), (n3 : Nat), (n4 : Nat), xs, false, 0, []⟩, _, _, rfl, h2.but hbt (.inr fun k hk => by have := h3 k hk; omega), RdE.nil _, ⟨HNI.out n1 (by simp), HNI.out n2 (by simp), HNI.out n3 (by simp), HNI.out n4 (by simp), (i64_small (by decide) (by decide) : I64 0)⟩, (fun d h => by cases h), (fun k hk => by have := h3 k hk; omega), (fun k hk => by simp [Value.ownBlock] at hk), belowEight h1.below _ (Nat.le_refl _) _ _ _ _ _ _ _ _⟩)
  clear hn1 hn2 hn3 hn4
  obtain ⟨⟨p0, p1, p2, p3, p4, p5, p6, p7⟩, q0, q1, q2, q3, q4, q5, q6, q7⟩ := HD.out.box.all
  obtain ⟨⟨z0, z1, z2, z3, z4, z5, z6, z7⟩, y0, y1, y2, y3, y4, y5, y6, y7⟩ := HD.out.res.all
  obtain ⟨⟨r0, r1⟩, -⟩ := HD.out.rdr.all
  cases f5 with
  | false =>
    have HF := hide (HN0.out rfl)
    clear hn5
    go_wp2
    refine bodyPost_ret (v := .tuple #[.agg #[.int .i64 (n1 : Int), .int .i64 (n2 : Int), .int .i64 (n3 : Int), .int .i64 (n4 : Int), .slice none 0 0, .bool false, .int .i64 0, .slice none 0 0], .bool false]) (by simp [results, Tryz.results25, go_sem, z0, z1, z2, z3, z4, z5, z6, z7]) rfl ?_
    exact HEZ.out V5 [] none 0 _ _ HD.out (RdI.nil _) (fun k hk => by simp [Value.ownBlock] at hk) HF.out
  | true =>
  by_cases hn128 : 128 < n5
  case pos =>
    have HF : Hid (RD = none) := hide (by rw [HG5.out rfl, if_pos hn128])
    have hni : (n5 : Int) > 128 := by omega
    clear hn5 hn128
    go_wp2
    refine bodyPost_ret (v := .tuple #[.agg #[.int .i64 (n1 : Int), .int .i64 (n2 : Int), .int .i64 (n3 : Int), .int .i64 (n4 : Int), .slice none 0 0, .bool false, .int .i64 0, .slice none 0 0], .bool false]) (by simp [results, Tryz.results25, go_sem, z0, z1, z2, z3, z4, z5, z6, z7]) rfl ?_
    exact HEZ.out V5 [] none 0 _ _ HD.out (RdI.nil _) (fun k hk => by simp [Value.ownBlock] at hk) HF.out
  have hni : ¬ (n5 : Int) > 128 := by omega
  have HT : Hid (RD = (getsG dgS n5 l5).bind (fun q => restD n1 n2 n3 n4 q.1 q.2)) := hide (by rw [HG5.out rfl, if_neg hn128])
  clear HG5 HN0 hn5
  go_wp2
  clear p0 p1 p2 p3 p4 p5 p6 p7 q0 q1 q2 q3 q4 q5 q6 q7 z0 z1 z2 z3 z4 z5 z6 z7 y0 y1 y2 y3 y4 y5 y6 y7 r0 r1
  go_loopw [7] (fun vi wr => ∃ (k : Nat) (xs : List Int) (l : List UInt8) (f : Bool) (a : Option Addr) (c : Nat) (xa : Option Addr) (xc : Nat), vi = .int .i64 (k : Int) ∧ k ≤ n5 ∧ xs.length = k ∧ Hid (l.length ≤ 900000) ∧ Hid (RIn w wr #[.int .i64 (n1 : Int), .int .i64 (n2 : Int), .int .i64 (n3 : Int), .int .i64 (n4 : Int), .slice xa xs.length xc, .bool false, .int .i64 0, .slice none 0 0] (.slice a l.length c) f) ∧ Hid (OwnI wr (w.heap.size + 1 + 1 + 1) (.slice xa xs.length xc) xs) ∧ Hid (∀ x ∈ xs, I64 x) ∧ Hid (∀ X, Rd X (.slice va b.length vc) b → Rd X (.slice a l.length c) l) ∧ Hid (f = true → RD = (getsG dgS (n5 - k) l).bind (fun q => restD n1 n2 n3 n4 (xs ++ q.1) q.2)) ∧ Hid (f = false → RD = none)) (fun vi _ => n5 - (intOf vi).toNat)
  case atStart => exact ⟨0, [], l5, true, a5, c5, none, 0, rfl, Nat.zero_le _, rfl, HLM, HD, hide (OwnI.nil _ _), hide (fun x h => by simp at h), HV, hide (fun _ => HT.out), hide (fun h => by cases h)⟩
  case round =>
    clear HT HLM HD HV
    obtain ⟨k, xs, l, f, a, c, xa, xc, rfl, hk, hxs, hL, HD, hO, hXI, HV, HT, HN0⟩ := hrel
    have HSZ : w.heap.size + 1 + 1 + 1 ≤ wr.heap.size := HD.out.box.lt
    by_cases hlt : k < n5
    case pos =>
      have hki : (k : Int) < (n5 : Int) := by omega
      have hsub : n5 - k = (n5 - (k + 1)) + 1 := by omega
      have HC := hide (signedAt HD.out HRV.out HV.out)
      rw [hsub] at HT
      have HFS := hide (fineS_step (G := fun q y => restD n1 n2 n3 n4 q y) HT.out HN0.out)
      have HLL : Hid ((l.drop (dgS l).2).length ≤ 900000) := hide (by rw [List.length_drop]; have := hL.out; omega)
      have HXN : Hid (I64 (dgS l).1) := hide (dgS_i l)
      unfold GotR at HC
      obtain ⟨f2, hf2⟩ : ∃ f2, f2 = (f && decide (0 < (dgS l).2)) := ⟨_, rfl⟩
      rw [← hf2] at HC HFS
      generalize l.drop (dgS l).2 = l2 at *
      generalize (dgS l).1 = x at *
      have HXS := hide hxs
      clear hf2 HT HN0 hsub hL hxs
      go_wp2_with fail
      refine HC.out.mono ?_
      rintro e V6 ⟨a6, c6, rfl, hv, hd, ha⟩
      have HV := hide hv
      have HD := hide hd
      have hO6 : Hid (OwnI V6 (w.heap.size + 1 + 1 + 1) (.slice xa xs.length xc) xs) := hide (hO.out.same (fun g hg => ha.block g (by have := (World.ownsRow.lt hO.out g hg).1; omega)))
      obtain ⟨HT, HN0⟩ : Hid _ ∧ Hid _ := ⟨hide HFS.out.1, hide HFS.out.2⟩
      clear hv hd ha HC HFS hO
      have hs6 : w.heap.size + 1 + 1 + 1 ≤ V6.heap.size := HD.out.box.lt
      obtain ⟨p4, q4⟩ := HD.out.box.cell 4
      have hxl : xs.length ≤ 1000000 := by rw [HXS.out]; omega
      go_wp2_with (at_builtin; refine wpList_append_int _ rfl _ _ rfl (w.heap.size + 1 + 1 + 1) _ xs rfl hO6.out x rfl hxl hs6 ?_)
      intro v9 W9 ho9 hb9
      obtain ⟨a9, c9, hv⟩ := ho9.shape
      subst hv
      have HD9 := hide (HD.out.moreB (by omega) hb9)
      have HD10 := hide (HD9.out.setBox 4 (.slice a9 (xs ++ [x]).length c9))
      have HO10 : Hid (OwnI (W9.setCell ⟨w.heap.size + 1 + 1, 4, none⟩ (.slice a9 (xs ++ [x]).length c9)) (w.heap.size + 1 + 1 + 1) (.slice a9 (xs ++ [x]).length c9) (xs ++ [x])) := hide (ho9.same (fun g hg => Below.heap_setCell _ _ _ _ (by have h := (World.ownsRow.lt ho9 g hg).1; show g ≠ w.heap.size + 1 + 1; omega)))
      have HI10 : Hid (∀ y ∈ xs ++ [x], I64 y) := hide (fun y hy => by
        rcases List.mem_append.1 hy with h | h
        · exact hXI.out y h
        · rw [List.mem_singleton.1 h]; exact HXN.out)
      obtain ⟨s4, g4⟩ := HD9.out.box.cell 4
      have HL1 : Hid ((xs ++ [x]).length = k + 1) := hide (by rw [List.length_append, List.length_singleton, HXS.out])
      generalize xs ++ [x] = X2 at *
      clear ho9 hb9 p4 q4 HD hO6 HD9 hXI
      go_wp2
      go_roundw
      case rel => exact ⟨k + 1, X2, l2, f2, a6, c6, a9, c9, by go_num, by omega, HL1.out, HLL, HD10, HO10, HI10, HV, HT, HN0⟩
      case measure => simp [intOf]; omega
    case neg =>
      have hni2 : ¬ (k : Int) < (n5 : Int) := by omega
      have hkn : k = n5 := by omega
      have HT2 : Hid (f = true → RD = restD n1 n2 n3 n4 xs l) := hide (fun h => by
        rw [HT.out h, show n5 - k = 0 by omega]
        simp [getsG])
      have HT3 : Hid (f = true → RD = (getsL (1 + 1) l).bind (fun r => gTwo n1 n2 n3 n4 xs r.1 r.2)) := hide (fun h => (HT2.out h).trans (restD_fine n1 n2 n3 n4 xs l))
      have HFS := hide (fine_step (n := 1) (G := gTwo n1 n2 n3 n4 xs) HT3.out HN0.out)
      have HC := hide (getAt HD.out HRV.out HV.out)
      have hsn := dec62_lt' l
      have HLL : Hid ((l.drop (dec62 l).2).length ≤ 900000) := hide (by rw [List.length_drop]; have := hL.out; omega)
      unfold GotR at HC
      obtain ⟨f6, hf6⟩ : ∃ f2, f2 = (f && decide (0 < (dec62 l).2)) := ⟨_, rfl⟩
      rw [← hf6] at HC HFS
      generalize l.drop (dec62 l).2 = l6 at *
      generalize (dec62 l).1 = sn at *
      have HXL : Hid (xs.length ≤ 128) := hide (by omega)
      clear hf6 HT HN0 HT2 HT3 hL hxs hkn hk hlt hn128 hni
      go_wp2_with fail
      refine HC.out.mono ?_
      rintro e V6 ⟨a6, c6, rfl, hv, hd, ha⟩
      have HV := hide hv
      have HD := hide hd
      have HO6 : Hid (OwnI V6 (w.heap.size + 1 + 1 + 1) (.slice xa xs.length xc) xs) := hide (hO.out.same (fun g hg => ha.block g (by have := (World.ownsRow.lt hO.out g hg).1; omega)))
      obtain ⟨HT, HN0⟩ : Hid _ ∧ Hid _ := ⟨hide HFS.out.1, hide HFS.out.2⟩
      clear hv hd ha HC HFS hO HSZ hni2
      have HOX : Hid (∀ g, (Value.slice xa xs.length xc).ownBlock = some g → w.heap.size + 1 + 1 < g ∧ g < V6.heap.size) := hide (fun g hg => by have := World.ownsRow.lt HO6.out g hg; omega)
      by_cases h3 : 3 < sn
      case pos =>
        have h3i : (sn : Int) > 3 := by omega
        have HF : Hid (RD = none) := hide (by
          cases f6 with
          | false => exact HN0.out rfl
          | true =>
            rw [HT.out rfl]
            cases getsL 1 l6 with
            | none => rfl
            | some r => simp only [Option.bind_some, gTwo, List.getD_cons_zero]; rw [if_pos h3])
        have HRX := hide (HO6.out.rd hXI.out)
        obtain ⟨⟨p0, p1, p2, p3, p4, p5, p6, p7⟩, q0, q1, q2, q3, q4, q5, q6, q7⟩ := HD.out.box.all
        obtain ⟨⟨z0, z1, z2, z3, z4, z5, z6, z7⟩, y0, y1, y2, y3, y4, y5, y6, y7⟩ := HD.out.res.all
        clear h3 hsn
        go_wp2
        refine bodyPost_ret (v := .tuple #[.agg #[.int .i64 (n1 : Int), .int .i64 (n2 : Int), .int .i64 (n3 : Int), .int .i64 (n4 : Int), .slice xa xs.length xc, .bool false, .int .i64 0, .slice none 0 0], .bool false]) (by simp [results, Tryz.results25, go_sem, z0, z1, z2, z3, z4, z5, z6, z7]) rfl ?_
        exact HEZ.out V6 xs xa xc _ _ HD.out HRX.out (fun g hg => (HOX.out g hg).1) HF.out
      have h3i : ¬ (sn : Int) > 3 := by omega
      have HTQ : Hid (f6 = true → RD = (getsL (0 + 1) l6).bind (fun r => gOne n1 n2 n3 n4 xs sn r.1 r.2)) := hide (fun h => by
        rw [HT.out h]
        cases getsL 1 l6 with
        | none => rfl
        | some r => simp only [Option.bind_some, gTwo, gOne, List.getD_cons_zero, List.getD_cons_succ]; rw [if_neg h3])
      clear HT hsn
      go_upto_if 62 with fail
      go_cut [] (fun wc => ∃ (sh : Bool) (g : Int), Hid (sh = decide (0 < sn)) ∧ Hid (g = if 0 < sn then (sn : Int) - 1 else 0) ∧ Hid (RIn w wc #[.int .i64 (n1 : Int), .int .i64 (n2 : Int), .int .i64 (n3 : Int), .int .i64 (n4 : Int), .slice xa xs.length xc, .bool sh, .int .i64 g, .slice none 0 0] (.slice a6 l6.length c6) f6) ∧ Hid (OwnI wc (w.heap.size + 1 + 1 + 1) (.slice xa xs.length xc) xs) ∧ wc.heap.size = V6.heap.size)
      case first =>
        obtain ⟨⟨p0, p1, p2, p3, p4, p5, p6, p7⟩, q0, q1, q2, q3, q4, q5, q6, q7⟩ := HD.out.box.all
        by_cases hs0 : 0 < sn
        · have hs0i : (sn : Int) > 0 := by omega
          have HD5 := hide (HD.out.setBox 5 (.bool true))
          have HD6 := hide (HD5.out.setBox 6 (.int .i64 ((sn : Int) - 1)))
          have HO8 : Hid (OwnI ((V6.setCell ⟨w.heap.size + 1 + 1, 5, none⟩ (.bool true)).setCell ⟨w.heap.size + 1 + 1, 6, none⟩ (.int .i64 ((sn : Int) - 1))) (w.heap.size + 1 + 1 + 1) (.slice xa xs.length xc) xs) := hide (HO6.out.same (fun g hg => (Below.heap_setCell _ _ _ _ (by have h := (HOX.out g hg).1; show g ≠ w.heap.size + 1 + 1; omega)).trans (Below.heap_setCell _ _ _ _ (by have h := (HOX.out g hg).1; show g ≠ w.heap.size + 1 + 1; omega))))
          have HA : Hid (true = decide (0 < sn) ∧ (sn : Int) - 1 = if 0 < sn then (sn : Int) - 1 else 0) := hide ⟨(decide_eq_true hs0).symm, by rw [if_pos hs0]⟩
          have HB : Hid (((V6.setCell ⟨w.heap.size + 1 + 1, 5, none⟩ (.bool true)).setCell ⟨w.heap.size + 1 + 1, 6, none⟩ (.int .i64 ((sn : Int) - 1))).heap.size = V6.heap.size) := hide (by simp [World.setCell])
          clear h3 HD5
          go_wp2
          go_meet
          exact ⟨true, (sn : Int) - 1, hide HA.out.1, hide HA.out.2, HD6, HO8, HB.out⟩
        · have hs0i : ¬ (sn : Int) > 0 := by omega
          have HA : Hid (false = decide (0 < sn) ∧ (0 : Int) = if 0 < sn then (sn : Int) - 1 else 0) := hide ⟨(decide_eq_false hs0).symm, by rw [if_neg hs0]⟩
          clear h3
          go_wp2
          go_meet
          exact ⟨false, 0, hide HA.out.1, hide HA.out.2, HD, HO6, rfl⟩
      case rest =>
        obtain ⟨V7, rfl⟩ : ∃ W, W = wc := ⟨_, rfl⟩
        clear HD HO6
        obtain ⟨sh, g, hsh, hg, HD, HO6, hsz⟩ := hcut
        have HOX : Hid (∀ g, (Value.slice xa xs.length xc).ownBlock = some g → w.heap.size + 1 + 1 < g ∧ g < V7.heap.size) := hide (fun g hg => by rw [hsz]; exact HOX.out g hg)
        have HGI : Hid (I64 g) := hide (by rw [hg.out]; split <;> exact ⟨by omega, by omega⟩)
        have HDO : Hid (∀ t, dOf n1 n2 n3 n4 xs sn t = ⟨(n1 : Nat), (n2 : Nat), (n3 : Nat), (n4 : Nat), xs, sh, g, t⟩) := hide (fun t => by rw [hsh.out, hg.out]; rfl)
        have HC := hide (getAt HD.out HRV.out HV.out)
        have HFS := hide (fine_step (n := 0) (G := gOne n1 n2 n3 n4 xs sn) HTQ.out HN0.out)
        have hmn := dec62_lt' l6
        have HL8 : Hid ((l6.drop (dec62 l6).2).length ≤ 900000) := hide (by rw [List.length_drop]; have := HLL.out; omega)
        unfold GotR at HC
        obtain ⟨f8, hf8⟩ : ∃ f2, f2 = (f6 && decide (0 < (dec62 l6).2)) := ⟨_, rfl⟩
        rw [← hf8] at HC HFS
        generalize l6.drop (dec62 l6).2 = l8 at *
        generalize (dec62 l6).1 = mn at *
        clear hf8 HTQ HN0 hsz HLL hsh hg h3i h3
        go_wp2_with fail
        refine HC.out.mono ?_
        rintro e V8 ⟨a8, c8, rfl, hv, hd, ha⟩
        have HV := hide hv
        have HD := hide hd
        have HOX : Hid (∀ g, (Value.slice xa xs.length xc).ownBlock = some g → w.heap.size + 1 + 1 < g ∧ g < V8.heap.size) := hide (fun g hg => by rw [ha.size]; exact HOX.out g hg)
        have HO8 : Hid (OwnI V8 (w.heap.size + 1 + 1 + 1) (.slice xa xs.length xc) xs) := hide (HO6.out.same (fun g hg => ha.block g (by have := (HOX.out g hg).1; omega)))
        have HRX : Hid (RdI V8 (.slice xa xs.length xc) xs) := hide (HO8.out.rd hXI.out)
        have HT : Hid (f8 = true → RD = (readE mn l8).bind (fun z => if z.2 = [] then some (⟨(n1 : Nat), (n2 : Nat), (n3 : Nat), (n4 : Nat), xs, sh, g, z.1⟩ : Delt) else none)) := hide (fun h => by
          rw [HFS.out.1 h]
          show (readE mn l8).bind _ = _
          congr 1
          funext z
          rw [HDO.out])
        have HN0 := hide HFS.out.2
        clear hv hd ha HC HFS HO6 HO8 HDO
        obtain ⟨M, hM⟩ : ∃ M, M = V8.heap.size := ⟨_, rfl⟩
        have hMD : w.heap.size + 1 + 1 < M := by rw [hM]; exact HD.out.box.lt
        have HVM : Hid (V8.heap.size = M) := hide hM.symm
        rw [← hM] at HOX
        clear hM
        go_wp2
        go_loopw [11] (fun vi wr => ∃ (k : Nat) (t : List Ent) (l9 : List UInt8) (f9 : Bool) (a9 : Option Addr) (c9 : Nat) (ta : Option Addr) (tc : Nat), vi = .int .i64 (k : Int) ∧ k ≤ mn ∧ t.length = k ∧ Hid (f9 = true → k + l9.length ≤ 900000) ∧ Hid (M ≤ wr.heap.size) ∧ Hid (RIn w wr #[.int .i64 (n1 : Int), .int .i64 (n2 : Int), .int .i64 (n3 : Int), .int .i64 (n4 : Int), .slice xa xs.length xc, .bool sh, .int .i64 g, .slice ta t.length tc] (.slice a9 l9.length c9) f9) ∧ Hid (RdI wr (.slice xa xs.length xc) xs) ∧ Hid (OwnE wr M (.slice ta t.length tc) t) ∧ Hid (∀ e ∈ t, EntI e) ∧ Hid (∀ X, Rd X (.slice va b.length vc) b → Rd X (.slice a9 l9.length c9) l9) ∧ Hid (f9 = true → RD = (readE (mn - k) l9).bind (fun r => gEnd n1 n2 n3 n4 xs sh g (t ++ r.1) r.2)) ∧ Hid (f9 = false → RD = none)) (fun vi _ => mn - (intOf vi).toNat)
        case atStart => exact ⟨0, [], l8, f8, a8, c8, none, 0, rfl, Nat.zero_le _, rfl, hide (fun _ => by have := HL8.out; omega), hide (by rw [HVM.out]; exact Nat.le_refl _), HD, HRX, hide (OwnE.nil _ _), hide (fun e h => by simp at h), HV, hide (fun h => HT.out h), HN0⟩
        case round =>
          clear HD HRX HV HT HN0 HL8 HVM
          obtain ⟨k, t, l9, f9, a9, c9, ta, tc, rfl, hk, htl, hL, hSz, HD, hRX, hO, hI, HV, HT, HN0⟩ := hrel
          have HOB : Hid (∀ k, (Value.slice ta t.length tc).ownBlock = some k → M ≤ k ∧ k < wr.heap.size) := hide (fun k hk => World.ownsRow.lt hO.out k hk)
          have HEND : Hid (∀ (ok : Bool), RD.isSome = ok → (∀ d, RD = some d → d = ⟨(n1 : Nat), (n2 : Nat), (n3 : Nat), (n4 : Nat), xs, sh, g, t⟩) → ReadDl w RD (.returned (.tuple #[.agg #[.int .i64 (n1 : Int), .int .i64 (n2 : Int), .int .i64 (n3 : Int), .int .i64 (n4 : Int), .slice xa xs.length xc, .bool sh, .int .i64 g, .slice ta t.length tc], .bool ok])) (eight wr w.heap.size (.int .i64 (n1 : Int)) (.int .i64 (n2 : Int)) (.int .i64 (n3 : Int)) (.int .i64 (n4 : Int)) (.slice xa xs.length xc) (.bool sh) (.int .i64 g) (.slice ta t.length tc)).drew) := hide (fun ok h1 h2 => by
            have hbt := butEight wr w.heap.size (.int .i64 (n1 : Int)) (.int .i64 (n2 : Int)) (.int .i64 (n3 : Int)) (.int .i64 (n4 : Int)) (.slice xa xs.length xc) (.bool sh) (.int .i64 g) (.slice ta t.length tc)
            have hre : RdE wr (.slice ta t.length tc) t := hO.out.rd hI.out
            exact ⟨⟨(n1 : Nat), (n2 : Nat), (n3 : Nat), (n4 : Nat), xs, sh, g, t⟩, _, _, by rw [h1], (hRX.out.but hbt (.inr fun k hk => by have := HOX.out k hk; omega)).below ((Below.refl _ _).drew) (Nat.le_refl _), (hre.but hbt (.inr fun k hk => by have := HOB.out k hk; omega)).below ((Below.refl _ _).drew) (Nat.le_refl _), ⟨HNI.out n1 (by simp), HNI.out n2 (by simp), HNI.out n3 (by simp), HNI.out n4 (by simp), HGI.out⟩, h2, (fun k hk => by have := HOX.out k hk; omega), (fun k hk => by have := HOB.out k hk; omega), (belowEight HD.out.below _ (Nat.le_refl _) _ _ _ _ _ _ _ _).drew⟩)
          obtain ⟨⟨p0, p1, p2, p3, p4, p5, p6, p7⟩, -⟩ := HD.out.box.all
          obtain ⟨⟨z0, z1, z2, z3, z4, z5, z6, z7⟩, y0, y1, y2, y3, y4, y5, y6, y7⟩ := HD.out.res.all
          obtain ⟨⟨r0, r1⟩, -⟩ := HD.out.rdr.all
          have hne1 : ¬ w.heap.size = w.heap.size + 1 := by omega
          have hne2 : ¬ w.heap.size + 1 = w.heap.size := by omega
          have hne3 : ¬ w.heap.size = w.heap.size + 1 + 1 := by omega
          have hne4 : ¬ w.heap.size + 1 + 1 = w.heap.size := by omega
          cases f9 with
          | false =>
            have HF : Hid (RD = none) := hide (HN0.out rfl)
            by_cases hlt : k < mn
            · have hki : (k : Int) < (mn : Int) := by omega
              clear hmn htl hk hlt
              have HK0 : Hid (wr.drew.cell? ⟨w.heap.size + 1 + 1, 0, none⟩ = some (.int .i64 (n1 : Int)) ∧ wr.drew.cell? ⟨w.heap.size + 1 + 1, 1, none⟩ = some (.int .i64 (n2 : Int)) ∧ wr.drew.cell? ⟨w.heap.size + 1 + 1, 2, none⟩ = some (.int .i64 (n3 : Int)) ∧ wr.drew.cell? ⟨w.heap.size + 1 + 1, 3, none⟩ = some (.int .i64 (n4 : Int)) ∧ wr.drew.cell? ⟨w.heap.size + 1 + 1, 4, none⟩ = some (.slice xa xs.length xc) ∧ wr.drew.cell? ⟨w.heap.size + 1 + 1, 5, none⟩ = some (.bool sh) ∧ wr.drew.cell? ⟨w.heap.size + 1 + 1, 6, none⟩ = some (.int .i64 g) ∧ wr.drew.cell? ⟨w.heap.size + 1 + 1, 7, none⟩ = some (.slice ta t.length tc) ∧ wr.drew.cell? ⟨w.heap.size + 1, 0, none⟩ = some (.slice a9 l9.length c9) ∧ wr.drew.cell? ⟨w.heap.size + 1, 1, none⟩ = some (.bool false)) := hide (by obtain ⟨h0, h1, h2, h3, h4, h5, h6, h7⟩ := HD.out.box.all.1; exact ⟨h0, h1, h2, h3, h4, h5, h6, h7, HD.out.rdr.all.1.1, HD.out.rdr.all.1.2⟩)
              have HK1 : Hid (∀ x0 x1 x2 x3 x4 x5 x6 x7 : Value, (fun W : World => W.cell? ⟨w.heap.size + 1 + 1, 0, none⟩ = some (.int .i64 (n1 : Int)) ∧ W.cell? ⟨w.heap.size + 1 + 1, 1, none⟩ = some (.int .i64 (n2 : Int)) ∧ W.cell? ⟨w.heap.size + 1 + 1, 2, none⟩ = some (.int .i64 (n3 : Int)) ∧ W.cell? ⟨w.heap.size + 1 + 1, 3, none⟩ = some (.int .i64 (n4 : Int)) ∧ W.cell? ⟨w.heap.size + 1 + 1, 4, none⟩ = some (.slice xa xs.length xc) ∧ W.cell? ⟨w.heap.size + 1 + 1, 5, none⟩ = some (.bool sh) ∧ W.cell? ⟨w.heap.size + 1 + 1, 6, none⟩ = some (.int .i64 g) ∧ W.cell? ⟨w.heap.size + 1 + 1, 7, none⟩ = some (.slice ta t.length tc) ∧ W.cell? ⟨w.heap.size + 1, 0, none⟩ = some (.slice a9 l9.length c9) ∧ W.cell? ⟨w.heap.size + 1, 1, none⟩ = some (.bool false)) ((((((((wr.setCell ⟨w.heap.size, 0, none⟩ x0).setCell ⟨w.heap.size, 1, none⟩ x1).setCell ⟨w.heap.size, 2, none⟩ x2).setCell ⟨w.heap.size, 3, none⟩ x3).setCell ⟨w.heap.size, 4, none⟩ x4).setCell ⟨w.heap.size, 5, none⟩ x5).setCell ⟨w.heap.size, 6, none⟩ x6).setCell ⟨w.heap.size, 7, none⟩ x7).drew) := hide (fun x0 x1 x2 x3 x4 x5 x6 x7 => by
                have h1 := HD.out.box.eightD (R := w.heap.size) (by omega) x0 x1 x2 x3 x4 x5 x6 x7
                have h2 := HD.out.rdr.eightD (R := w.heap.size) (by omega) x0 x1 x2 x3 x4 x5 x6 x7
                obtain ⟨h0, h1, h3, h4, h5, h6, h7, h8⟩ := h1.all.1
                exact ⟨h0, h1, h3, h4, h5, h6, h7, h8, h2.all.1.1, h2.all.1.2⟩)
              clear p0 p1 p2 p3 p4 p5 p6 p7
              go_upto_region 29 with fail
              clear r0 r1
              refine wp_region_held_drew (S := fun W => W.cell? ⟨w.heap.size + 1 + 1, 0, none⟩ = some (.int .i64 (n1 : Int)) ∧ W.cell? ⟨w.heap.size + 1 + 1, 1, none⟩ = some (.int .i64 (n2 : Int)) ∧ W.cell? ⟨w.heap.size + 1 + 1, 2, none⟩ = some (.int .i64 (n3 : Int)) ∧ W.cell? ⟨w.heap.size + 1 + 1, 3, none⟩ = some (.int .i64 (n4 : Int)) ∧ W.cell? ⟨w.heap.size + 1 + 1, 4, none⟩ = some (.slice xa xs.length xc) ∧ W.cell? ⟨w.heap.size + 1 + 1, 5, none⟩ = some (.bool sh) ∧ W.cell? ⟨w.heap.size + 1 + 1, 6, none⟩ = some (.int .i64 g) ∧ W.cell? ⟨w.heap.size + 1 + 1, 7, none⟩ = some (.slice ta t.length tc) ∧ W.cell? ⟨w.heap.size + 1, 0, none⟩ = some (.slice a9 l9.length c9) ∧ W.cell? ⟨w.heap.size + 1, 1, none⟩ = some (.bool false)) (by kernel_rfl) HK0.out (fun hHeld => ?_)
              refine wpAnyH_take (i := 0) (v := ?_) rfl (by kernel_rfl) (by kernel_rfl) (by kernel_rfl) (fun _ _ _ h => h) (Or.inl ⟨by rfl, ?_⟩) (by assumption) ?_
              rotate_left
              · intro w' hSw
                obtain ⟨s0, s1, s2, s3, s4, s5, s6, s7, s8, s9⟩ := hSw
                go_simp
                try with_reducible rfl
              simp only [Act.put, List.getElem_toArray, List.getElem_cons_zero, List.getElem_cons_succ, List.setIfInBounds_toArray, List.set_cons_zero, List.set_cons_succ]
              refine wpAnyH_take (i := 1) (v := ?_) rfl (by kernel_rfl) (by kernel_rfl) (by kernel_rfl) (fun _ _ _ h => h) (Or.inl ⟨by rfl, ?_⟩) (by assumption) ?_
              rotate_left
              · intro w' hSw
                obtain ⟨s0, s1, s2, s3, s4, s5, s6, s7, s8, s9⟩ := hSw
                go_simp
                try with_reducible rfl
              simp only [Act.put, List.getElem_toArray, List.getElem_cons_zero, List.getElem_cons_succ, List.setIfInBounds_toArray, List.set_cons_zero, List.set_cons_succ]
              refine wpAnyH_take (i := 2) (v := ?_) rfl (by kernel_rfl) (by kernel_rfl) (by kernel_rfl) (fun _ _ _ h => h) (Or.inl ⟨by rfl, ?_⟩) (by assumption) ?_
              rotate_left
              · intro w' hSw
                obtain ⟨s0, s1, s2, s3, s4, s5, s6, s7, s8, s9⟩ := hSw
                go_simp
                try with_reducible rfl
              simp only [Act.put, List.getElem_toArray, List.getElem_cons_zero, List.getElem_cons_succ, List.setIfInBounds_toArray, List.set_cons_zero, List.set_cons_succ]
              refine wpAnyH_take (i := 3) (v := ?_) rfl (by kernel_rfl) (by kernel_rfl) (by kernel_rfl) (fun _ _ _ h => h) (Or.inl ⟨by rfl, ?_⟩) (by assumption) ?_
              rotate_left
              · intro w' hSw
                obtain ⟨s0, s1, s2, s3, s4, s5, s6, s7, s8, s9⟩ := hSw
                go_simp
                try with_reducible rfl
              simp only [Act.put, List.getElem_toArray, List.getElem_cons_zero, List.getElem_cons_succ, List.setIfInBounds_toArray, List.set_cons_zero, List.set_cons_succ]
              refine wpAnyH_take (i := 4) (v := ?_) rfl (by kernel_rfl) (by kernel_rfl) (by kernel_rfl) (fun _ _ _ h => h) (Or.inl ⟨by rfl, ?_⟩) (by assumption) ?_
              rotate_left
              · intro w' hSw
                obtain ⟨s0, s1, s2, s3, s4, s5, s6, s7, s8, s9⟩ := hSw
                go_simp
                try with_reducible rfl
              simp only [Act.put, List.getElem_toArray, List.getElem_cons_zero, List.getElem_cons_succ, List.setIfInBounds_toArray, List.set_cons_zero, List.set_cons_succ]
              refine wpAnyH_take (i := 5) (v := ?_) rfl (by kernel_rfl) (by kernel_rfl) (by kernel_rfl) (fun _ _ _ h => h) (Or.inl ⟨by rfl, ?_⟩) (by assumption) ?_
              rotate_left
              · intro w' hSw
                obtain ⟨s0, s1, s2, s3, s4, s5, s6, s7, s8, s9⟩ := hSw
                go_simp
                try with_reducible rfl
              simp only [Act.put, List.getElem_toArray, List.getElem_cons_zero, List.getElem_cons_succ, List.setIfInBounds_toArray, List.set_cons_zero, List.set_cons_succ]
              refine wpAnyH_take (i := 6) (v := undef) rfl (by kernel_rfl) (by kernel_rfl) (by kernel_rfl) (fun _ _ _ h => h) (Or.inr ⟨by rfl, rfl⟩) (by assumption) ?_
              simp only [Act.put, List.getElem_toArray, List.getElem_cons_zero, List.getElem_cons_succ, List.setIfInBounds_toArray, List.set_cons_zero, List.set_cons_succ]
              refine wpAnyH_take (i := 7) (v := undef) rfl (by kernel_rfl) (by kernel_rfl) (by kernel_rfl) (fun _ _ _ h => h) (Or.inr ⟨by rfl, rfl⟩) (by assumption) ?_
              simp only [Act.put, List.getElem_toArray, List.getElem_cons_zero, List.getElem_cons_succ, List.setIfInBounds_toArray, List.set_cons_zero, List.set_cons_succ]
              refine wpAnyH_take (i := 8) (v := undef) rfl (by kernel_rfl) (by kernel_rfl) (by kernel_rfl) (fun _ _ _ h => h) (Or.inr ⟨by rfl, rfl⟩) (by assumption) ?_
              simp only [Act.put, List.getElem_toArray, List.getElem_cons_zero, List.getElem_cons_succ, List.setIfInBounds_toArray, List.set_cons_zero, List.set_cons_succ]
              refine wpAnyH_take (i := 9) (v := undef) rfl (by kernel_rfl) (by kernel_rfl) (by kernel_rfl) (fun _ _ _ h => h) (Or.inr ⟨by rfl, rfl⟩) (by assumption) ?_
              simp only [Act.put, List.getElem_toArray, List.getElem_cons_zero, List.getElem_cons_succ, List.setIfInBounds_toArray, List.set_cons_zero, List.set_cons_succ]
              refine wpAnyH_take (i := 10) (v := undef) rfl (by kernel_rfl) (by kernel_rfl) (by kernel_rfl) (fun _ _ _ h => h) (Or.inr ⟨by rfl, rfl⟩) (by assumption) ?_
              simp only [Act.put, List.getElem_toArray, List.getElem_cons_zero, List.getElem_cons_succ, List.setIfInBounds_toArray, List.set_cons_zero, List.set_cons_succ]
              refine wpAnyH_take (i := 11) (v := undef) rfl (by kernel_rfl) (by kernel_rfl) (by kernel_rfl) (fun _ _ _ h => h) (Or.inr ⟨by rfl, rfl⟩) (by assumption) ?_
              simp only [Act.put, List.getElem_toArray, List.getElem_cons_zero, List.getElem_cons_succ, List.setIfInBounds_toArray, List.set_cons_zero, List.set_cons_succ]
              refine wpAnyH_take (i := 12) (v := ?_) rfl (by kernel_rfl) (by kernel_rfl) (by kernel_rfl) (fun _ _ _ h => h) (Or.inl ⟨by rfl, ?_⟩) (by assumption) ?_
              rotate_left
              · intro w' hSw
                obtain ⟨s0, s1, s2, s3, s4, s5, s6, s7, s8, s9⟩ := hSw
                go_simp
                try with_reducible rfl
              simp only [Act.put, List.getElem_toArray, List.getElem_cons_zero, List.getElem_cons_succ, List.setIfInBounds_toArray, List.set_cons_zero, List.set_cons_succ]
              refine wpAnyH_ready (rs := [13]) (by kernel_rfl) (by simp) ?_
              refine AllReadyH.cons rfl (fun K' hK => ?_) AllReadyH.nil
              go_simp
              refine hK.out _ _ ?_ (fun hHeld => ?_)
              · exact HK1.out _ _ _ _ _ _ _ _
              clear hK K'
              refine wpAnyH_take (i := 14) (v := ?_) rfl (by kernel_rfl) (by kernel_rfl) (by kernel_rfl) (fun _ _ _ h => h) (Or.inl ⟨by rfl, ?_⟩) (by assumption) ?_
              rotate_left
              · intro w' hSw
                obtain ⟨s0, s1, s2, s3, s4, s5, s6, s7, s8, s9⟩ := hSw
                go_simp
                try with_reducible rfl
              simp only [Act.put, List.getElem_toArray, List.getElem_cons_zero, List.getElem_cons_succ, List.setIfInBounds_toArray, List.set_cons_zero, List.set_cons_succ]
              refine wpAnyH_done (by kernel_rfl) ?_ _
              all_goals
                go_wp2
                refine bodyPost_ret (v := .tuple #[.agg #[.int .i64 (n1 : Int), .int .i64 (n2 : Int), .int .i64 (n3 : Int), .int .i64 (n4 : Int), .slice xa xs.length xc, .bool sh, .int .i64 g, .slice ta t.length tc], .bool false]) (by simp [results, Tryz.results25, go_sem, z0, z1, z2, z3, z4, z5, z6, z7]) rfl ?_
                exact HEND.out false (by rw [HF.out]; rfl) (fun d h => by rw [HF.out] at h; cases h)
            · have hki : ¬ (k : Int) < (mn : Int) := by omega
              clear hmn htl hk hlt
              have HK0 : Hid (wr.drew.cell? ⟨w.heap.size + 1 + 1, 0, none⟩ = some (.int .i64 (n1 : Int)) ∧ wr.drew.cell? ⟨w.heap.size + 1 + 1, 1, none⟩ = some (.int .i64 (n2 : Int)) ∧ wr.drew.cell? ⟨w.heap.size + 1 + 1, 2, none⟩ = some (.int .i64 (n3 : Int)) ∧ wr.drew.cell? ⟨w.heap.size + 1 + 1, 3, none⟩ = some (.int .i64 (n4 : Int)) ∧ wr.drew.cell? ⟨w.heap.size + 1 + 1, 4, none⟩ = some (.slice xa xs.length xc) ∧ wr.drew.cell? ⟨w.heap.size + 1 + 1, 5, none⟩ = some (.bool sh) ∧ wr.drew.cell? ⟨w.heap.size + 1 + 1, 6, none⟩ = some (.int .i64 g) ∧ wr.drew.cell? ⟨w.heap.size + 1 + 1, 7, none⟩ = some (.slice ta t.length tc) ∧ wr.drew.cell? ⟨w.heap.size + 1, 0, none⟩ = some (.slice a9 l9.length c9) ∧ wr.drew.cell? ⟨w.heap.size + 1, 1, none⟩ = some (.bool false)) := hide (by obtain ⟨h0, h1, h2, h3, h4, h5, h6, h7⟩ := HD.out.box.all.1; exact ⟨h0, h1, h2, h3, h4, h5, h6, h7, HD.out.rdr.all.1.1, HD.out.rdr.all.1.2⟩)
              have HK1 : Hid (∀ x0 x1 x2 x3 x4 x5 x6 x7 : Value, (fun W : World => W.cell? ⟨w.heap.size + 1 + 1, 0, none⟩ = some (.int .i64 (n1 : Int)) ∧ W.cell? ⟨w.heap.size + 1 + 1, 1, none⟩ = some (.int .i64 (n2 : Int)) ∧ W.cell? ⟨w.heap.size + 1 + 1, 2, none⟩ = some (.int .i64 (n3 : Int)) ∧ W.cell? ⟨w.heap.size + 1 + 1, 3, none⟩ = some (.int .i64 (n4 : Int)) ∧ W.cell? ⟨w.heap.size + 1 + 1, 4, none⟩ = some (.slice xa xs.length xc) ∧ W.cell? ⟨w.heap.size + 1 + 1, 5, none⟩ = some (.bool sh) ∧ W.cell? ⟨w.heap.size + 1 + 1, 6, none⟩ = some (.int .i64 g) ∧ W.cell? ⟨w.heap.size + 1 + 1, 7, none⟩ = some (.slice ta t.length tc) ∧ W.cell? ⟨w.heap.size + 1, 0, none⟩ = some (.slice a9 l9.length c9) ∧ W.cell? ⟨w.heap.size + 1, 1, none⟩ = some (.bool false)) ((((((((wr.setCell ⟨w.heap.size, 0, none⟩ x0).setCell ⟨w.heap.size, 1, none⟩ x1).setCell ⟨w.heap.size, 2, none⟩ x2).setCell ⟨w.heap.size, 3, none⟩ x3).setCell ⟨w.heap.size, 4, none⟩ x4).setCell ⟨w.heap.size, 5, none⟩ x5).setCell ⟨w.heap.size, 6, none⟩ x6).setCell ⟨w.heap.size, 7, none⟩ x7).drew) := hide (fun x0 x1 x2 x3 x4 x5 x6 x7 => by
                have h1 := HD.out.box.eightD (R := w.heap.size) (by omega) x0 x1 x2 x3 x4 x5 x6 x7
                have h2 := HD.out.rdr.eightD (R := w.heap.size) (by omega) x0 x1 x2 x3 x4 x5 x6 x7
                obtain ⟨h0, h1, h3, h4, h5, h6, h7, h8⟩ := h1.all.1
                exact ⟨h0, h1, h3, h4, h5, h6, h7, h8, h2.all.1.1, h2.all.1.2⟩)
              clear p0 p1 p2 p3 p4 p5 p6 p7
              go_upto_region 29 with fail
              clear r0 r1
              refine wp_region_held_drew (S := fun W => W.cell? ⟨w.heap.size + 1 + 1, 0, none⟩ = some (.int .i64 (n1 : Int)) ∧ W.cell? ⟨w.heap.size + 1 + 1, 1, none⟩ = some (.int .i64 (n2 : Int)) ∧ W.cell? ⟨w.heap.size + 1 + 1, 2, none⟩ = some (.int .i64 (n3 : Int)) ∧ W.cell? ⟨w.heap.size + 1 + 1, 3, none⟩ = some (.int .i64 (n4 : Int)) ∧ W.cell? ⟨w.heap.size + 1 + 1, 4, none⟩ = some (.slice xa xs.length xc) ∧ W.cell? ⟨w.heap.size + 1 + 1, 5, none⟩ = some (.bool sh) ∧ W.cell? ⟨w.heap.size + 1 + 1, 6, none⟩ = some (.int .i64 g) ∧ W.cell? ⟨w.heap.size + 1 + 1, 7, none⟩ = some (.slice ta t.length tc) ∧ W.cell? ⟨w.heap.size + 1, 0, none⟩ = some (.slice a9 l9.length c9) ∧ W.cell? ⟨w.heap.size + 1, 1, none⟩ = some (.bool false)) (by kernel_rfl) HK0.out (fun hHeld => ?_)
              refine wpAnyH_take (i := 0) (v := ?_) rfl (by kernel_rfl) (by kernel_rfl) (by kernel_rfl) (fun _ _ _ h => h) (Or.inl ⟨by rfl, ?_⟩) (by assumption) ?_
              rotate_left
              · intro w' hSw
                obtain ⟨s0, s1, s2, s3, s4, s5, s6, s7, s8, s9⟩ := hSw
                go_simp
                try with_reducible rfl
              simp only [Act.put, List.getElem_toArray, List.getElem_cons_zero, List.getElem_cons_succ, List.setIfInBounds_toArray, List.set_cons_zero, List.set_cons_succ]
              refine wpAnyH_take (i := 1) (v := ?_) rfl (by kernel_rfl) (by kernel_rfl) (by kernel_rfl) (fun _ _ _ h => h) (Or.inl ⟨by rfl, ?_⟩) (by assumption) ?_
              rotate_left
              · intro w' hSw
                obtain ⟨s0, s1, s2, s3, s4, s5, s6, s7, s8, s9⟩ := hSw
                go_simp
                try with_reducible rfl
              simp only [Act.put, List.getElem_toArray, List.getElem_cons_zero, List.getElem_cons_succ, List.setIfInBounds_toArray, List.set_cons_zero, List.set_cons_succ]
              refine wpAnyH_take (i := 2) (v := ?_) rfl (by kernel_rfl) (by kernel_rfl) (by kernel_rfl) (fun _ _ _ h => h) (Or.inl ⟨by rfl, ?_⟩) (by assumption) ?_
              rotate_left
              · intro w' hSw
                obtain ⟨s0, s1, s2, s3, s4, s5, s6, s7, s8, s9⟩ := hSw
                go_simp
                try with_reducible rfl
              simp only [Act.put, List.getElem_toArray, List.getElem_cons_zero, List.getElem_cons_succ, List.setIfInBounds_toArray, List.set_cons_zero, List.set_cons_succ]
              refine wpAnyH_take (i := 3) (v := ?_) rfl (by kernel_rfl) (by kernel_rfl) (by kernel_rfl) (fun _ _ _ h => h) (Or.inl ⟨by rfl, ?_⟩) (by assumption) ?_
              rotate_left
              · intro w' hSw
                obtain ⟨s0, s1, s2, s3, s4, s5, s6, s7, s8, s9⟩ := hSw
                go_simp
                try with_reducible rfl
              simp only [Act.put, List.getElem_toArray, List.getElem_cons_zero, List.getElem_cons_succ, List.setIfInBounds_toArray, List.set_cons_zero, List.set_cons_succ]
              refine wpAnyH_take (i := 4) (v := ?_) rfl (by kernel_rfl) (by kernel_rfl) (by kernel_rfl) (fun _ _ _ h => h) (Or.inl ⟨by rfl, ?_⟩) (by assumption) ?_
              rotate_left
              · intro w' hSw
                obtain ⟨s0, s1, s2, s3, s4, s5, s6, s7, s8, s9⟩ := hSw
                go_simp
                try with_reducible rfl
              simp only [Act.put, List.getElem_toArray, List.getElem_cons_zero, List.getElem_cons_succ, List.setIfInBounds_toArray, List.set_cons_zero, List.set_cons_succ]
              refine wpAnyH_take (i := 5) (v := ?_) rfl (by kernel_rfl) (by kernel_rfl) (by kernel_rfl) (fun _ _ _ h => h) (Or.inl ⟨by rfl, ?_⟩) (by assumption) ?_
              rotate_left
              · intro w' hSw
                obtain ⟨s0, s1, s2, s3, s4, s5, s6, s7, s8, s9⟩ := hSw
                go_simp
                try with_reducible rfl
              simp only [Act.put, List.getElem_toArray, List.getElem_cons_zero, List.getElem_cons_succ, List.setIfInBounds_toArray, List.set_cons_zero, List.set_cons_succ]
              refine wpAnyH_take (i := 6) (v := undef) rfl (by kernel_rfl) (by kernel_rfl) (by kernel_rfl) (fun _ _ _ h => h) (Or.inr ⟨by rfl, rfl⟩) (by assumption) ?_
              simp only [Act.put, List.getElem_toArray, List.getElem_cons_zero, List.getElem_cons_succ, List.setIfInBounds_toArray, List.set_cons_zero, List.set_cons_succ]
              refine wpAnyH_take (i := 7) (v := undef) rfl (by kernel_rfl) (by kernel_rfl) (by kernel_rfl) (fun _ _ _ h => h) (Or.inr ⟨by rfl, rfl⟩) (by assumption) ?_
              simp only [Act.put, List.getElem_toArray, List.getElem_cons_zero, List.getElem_cons_succ, List.setIfInBounds_toArray, List.set_cons_zero, List.set_cons_succ]
              refine wpAnyH_take (i := 8) (v := undef) rfl (by kernel_rfl) (by kernel_rfl) (by kernel_rfl) (fun _ _ _ h => h) (Or.inr ⟨by rfl, rfl⟩) (by assumption) ?_
              simp only [Act.put, List.getElem_toArray, List.getElem_cons_zero, List.getElem_cons_succ, List.setIfInBounds_toArray, List.set_cons_zero, List.set_cons_succ]
              refine wpAnyH_take (i := 9) (v := undef) rfl (by kernel_rfl) (by kernel_rfl) (by kernel_rfl) (fun _ _ _ h => h) (Or.inr ⟨by rfl, rfl⟩) (by assumption) ?_
              simp only [Act.put, List.getElem_toArray, List.getElem_cons_zero, List.getElem_cons_succ, List.setIfInBounds_toArray, List.set_cons_zero, List.set_cons_succ]
              refine wpAnyH_take (i := 10) (v := undef) rfl (by kernel_rfl) (by kernel_rfl) (by kernel_rfl) (fun _ _ _ h => h) (Or.inr ⟨by rfl, rfl⟩) (by assumption) ?_
              simp only [Act.put, List.getElem_toArray, List.getElem_cons_zero, List.getElem_cons_succ, List.setIfInBounds_toArray, List.set_cons_zero, List.set_cons_succ]
              refine wpAnyH_take (i := 11) (v := undef) rfl (by kernel_rfl) (by kernel_rfl) (by kernel_rfl) (fun _ _ _ h => h) (Or.inr ⟨by rfl, rfl⟩) (by assumption) ?_
              simp only [Act.put, List.getElem_toArray, List.getElem_cons_zero, List.getElem_cons_succ, List.setIfInBounds_toArray, List.set_cons_zero, List.set_cons_succ]
              refine wpAnyH_take (i := 12) (v := ?_) rfl (by kernel_rfl) (by kernel_rfl) (by kernel_rfl) (fun _ _ _ h => h) (Or.inl ⟨by rfl, ?_⟩) (by assumption) ?_
              rotate_left
              · intro w' hSw
                obtain ⟨s0, s1, s2, s3, s4, s5, s6, s7, s8, s9⟩ := hSw
                go_simp
                try with_reducible rfl
              simp only [Act.put, List.getElem_toArray, List.getElem_cons_zero, List.getElem_cons_succ, List.setIfInBounds_toArray, List.set_cons_zero, List.set_cons_succ]
              refine wpAnyH_ready (rs := [13]) (by kernel_rfl) (by simp) ?_
              refine AllReadyH.cons rfl (fun K' hK => ?_) AllReadyH.nil
              go_simp
              refine hK.out _ _ ?_ (fun hHeld => ?_)
              · exact HK1.out _ _ _ _ _ _ _ _
              clear hK K'
              refine wpAnyH_take (i := 14) (v := ?_) rfl (by kernel_rfl) (by kernel_rfl) (by kernel_rfl) (fun _ _ _ h => h) (Or.inl ⟨by rfl, ?_⟩) (by assumption) ?_
              rotate_left
              · intro w' hSw
                obtain ⟨s0, s1, s2, s3, s4, s5, s6, s7, s8, s9⟩ := hSw
                go_simp
                try with_reducible rfl
              simp only [Act.put, List.getElem_toArray, List.getElem_cons_zero, List.getElem_cons_succ, List.setIfInBounds_toArray, List.set_cons_zero, List.set_cons_succ]
              refine wpAnyH_done (by kernel_rfl) ?_ _
              all_goals
                go_wp2
                refine bodyPost_ret (v := .tuple #[.agg #[.int .i64 (n1 : Int), .int .i64 (n2 : Int), .int .i64 (n3 : Int), .int .i64 (n4 : Int), .slice xa xs.length xc, .bool sh, .int .i64 g, .slice ta t.length tc], .bool false]) (by simp [results, Tryz.results25, go_sem, z0, z1, z2, z3, z4, z5, z6, z7]) rfl ?_
                exact HEND.out false (by rw [HF.out]; rfl) (fun d h => by rw [HF.out] at h; cases h)
          | true =>
          by_cases hlt : k < mn
          case neg =>
            have hki : ¬ (k : Int) < (mn : Int) := by omega
            have HRF : Hid (RD = if l9 = [] then some ⟨(n1 : Nat), (n2 : Nat), (n3 : Nat), (n4 : Nat), xs, sh, g, t⟩ else none) := hide (by
              rw [HT.out rfl, show mn - k = 0 by omega]
              simp [readE, gEnd])
            by_cases hl : l9 = []
            · have HF : Hid (RD = some ⟨(n1 : Nat), (n2 : Nat), (n3 : Nat), (n4 : Nat), xs, sh, g, t⟩) := hide (by rw [HRF.out, if_pos hl])
              have hll : ((l9.length : Int) == 0) = true := by rw [hl]; rfl
              clear hmn htl hk hlt hl HRF
              have HK0 : Hid (wr.drew.cell? ⟨w.heap.size + 1 + 1, 0, none⟩ = some (.int .i64 (n1 : Int)) ∧ wr.drew.cell? ⟨w.heap.size + 1 + 1, 1, none⟩ = some (.int .i64 (n2 : Int)) ∧ wr.drew.cell? ⟨w.heap.size + 1 + 1, 2, none⟩ = some (.int .i64 (n3 : Int)) ∧ wr.drew.cell? ⟨w.heap.size + 1 + 1, 3, none⟩ = some (.int .i64 (n4 : Int)) ∧ wr.drew.cell? ⟨w.heap.size + 1 + 1, 4, none⟩ = some (.slice xa xs.length xc) ∧ wr.drew.cell? ⟨w.heap.size + 1 + 1, 5, none⟩ = some (.bool sh) ∧ wr.drew.cell? ⟨w.heap.size + 1 + 1, 6, none⟩ = some (.int .i64 g) ∧ wr.drew.cell? ⟨w.heap.size + 1 + 1, 7, none⟩ = some (.slice ta t.length tc) ∧ wr.drew.cell? ⟨w.heap.size + 1, 0, none⟩ = some (.slice a9 l9.length c9) ∧ wr.drew.cell? ⟨w.heap.size + 1, 1, none⟩ = some (.bool true)) := hide (by obtain ⟨h0, h1, h2, h3, h4, h5, h6, h7⟩ := HD.out.box.all.1; exact ⟨h0, h1, h2, h3, h4, h5, h6, h7, HD.out.rdr.all.1.1, HD.out.rdr.all.1.2⟩)
              have HK1 : Hid (∀ x0 x1 x2 x3 x4 x5 x6 x7 : Value, (fun W : World => W.cell? ⟨w.heap.size + 1 + 1, 0, none⟩ = some (.int .i64 (n1 : Int)) ∧ W.cell? ⟨w.heap.size + 1 + 1, 1, none⟩ = some (.int .i64 (n2 : Int)) ∧ W.cell? ⟨w.heap.size + 1 + 1, 2, none⟩ = some (.int .i64 (n3 : Int)) ∧ W.cell? ⟨w.heap.size + 1 + 1, 3, none⟩ = some (.int .i64 (n4 : Int)) ∧ W.cell? ⟨w.heap.size + 1 + 1, 4, none⟩ = some (.slice xa xs.length xc) ∧ W.cell? ⟨w.heap.size + 1 + 1, 5, none⟩ = some (.bool sh) ∧ W.cell? ⟨w.heap.size + 1 + 1, 6, none⟩ = some (.int .i64 g) ∧ W.cell? ⟨w.heap.size + 1 + 1, 7, none⟩ = some (.slice ta t.length tc) ∧ W.cell? ⟨w.heap.size + 1, 0, none⟩ = some (.slice a9 l9.length c9) ∧ W.cell? ⟨w.heap.size + 1, 1, none⟩ = some (.bool true)) ((((((((wr.setCell ⟨w.heap.size, 0, none⟩ x0).setCell ⟨w.heap.size, 1, none⟩ x1).setCell ⟨w.heap.size, 2, none⟩ x2).setCell ⟨w.heap.size, 3, none⟩ x3).setCell ⟨w.heap.size, 4, none⟩ x4).setCell ⟨w.heap.size, 5, none⟩ x5).setCell ⟨w.heap.size, 6, none⟩ x6).setCell ⟨w.heap.size, 7, none⟩ x7).drew) := hide (fun x0 x1 x2 x3 x4 x5 x6 x7 => by
                have h1 := HD.out.box.eightD (R := w.heap.size) (by omega) x0 x1 x2 x3 x4 x5 x6 x7
                have h2 := HD.out.rdr.eightD (R := w.heap.size) (by omega) x0 x1 x2 x3 x4 x5 x6 x7
                obtain ⟨h0, h1, h3, h4, h5, h6, h7, h8⟩ := h1.all.1
                exact ⟨h0, h1, h3, h4, h5, h6, h7, h8, h2.all.1.1, h2.all.1.2⟩)
              clear p0 p1 p2 p3 p4 p5 p6 p7
              go_upto_region 29 with fail
              clear r0 r1
              refine wp_region_held_drew (S := fun W => W.cell? ⟨w.heap.size + 1 + 1, 0, none⟩ = some (.int .i64 (n1 : Int)) ∧ W.cell? ⟨w.heap.size + 1 + 1, 1, none⟩ = some (.int .i64 (n2 : Int)) ∧ W.cell? ⟨w.heap.size + 1 + 1, 2, none⟩ = some (.int .i64 (n3 : Int)) ∧ W.cell? ⟨w.heap.size + 1 + 1, 3, none⟩ = some (.int .i64 (n4 : Int)) ∧ W.cell? ⟨w.heap.size + 1 + 1, 4, none⟩ = some (.slice xa xs.length xc) ∧ W.cell? ⟨w.heap.size + 1 + 1, 5, none⟩ = some (.bool sh) ∧ W.cell? ⟨w.heap.size + 1 + 1, 6, none⟩ = some (.int .i64 g) ∧ W.cell? ⟨w.heap.size + 1 + 1, 7, none⟩ = some (.slice ta t.length tc) ∧ W.cell? ⟨w.heap.size + 1, 0, none⟩ = some (.slice a9 l9.length c9) ∧ W.cell? ⟨w.heap.size + 1, 1, none⟩ = some (.bool true)) (by kernel_rfl) HK0.out (fun hHeld => ?_)
              refine wpAnyH_take (i := 0) (v := ?_) rfl (by kernel_rfl) (by kernel_rfl) (by kernel_rfl) (fun _ _ _ h => h) (Or.inl ⟨by rfl, ?_⟩) (by assumption) ?_
              rotate_left
              · intro w' hSw
                obtain ⟨s0, s1, s2, s3, s4, s5, s6, s7, s8, s9⟩ := hSw
                go_simp
                try with_reducible rfl
              simp only [Act.put, List.getElem_toArray, List.getElem_cons_zero, List.getElem_cons_succ, List.setIfInBounds_toArray, List.set_cons_zero, List.set_cons_succ]
              refine wpAnyH_take (i := 1) (v := ?_) rfl (by kernel_rfl) (by kernel_rfl) (by kernel_rfl) (fun _ _ _ h => h) (Or.inl ⟨by rfl, ?_⟩) (by assumption) ?_
              rotate_left
              · intro w' hSw
                obtain ⟨s0, s1, s2, s3, s4, s5, s6, s7, s8, s9⟩ := hSw
                go_simp
                try with_reducible rfl
              simp only [Act.put, List.getElem_toArray, List.getElem_cons_zero, List.getElem_cons_succ, List.setIfInBounds_toArray, List.set_cons_zero, List.set_cons_succ]
              refine wpAnyH_take (i := 2) (v := ?_) rfl (by kernel_rfl) (by kernel_rfl) (by kernel_rfl) (fun _ _ _ h => h) (Or.inl ⟨by rfl, ?_⟩) (by assumption) ?_
              rotate_left
              · intro w' hSw
                obtain ⟨s0, s1, s2, s3, s4, s5, s6, s7, s8, s9⟩ := hSw
                go_simp
                try with_reducible rfl
              simp only [Act.put, List.getElem_toArray, List.getElem_cons_zero, List.getElem_cons_succ, List.setIfInBounds_toArray, List.set_cons_zero, List.set_cons_succ]
              refine wpAnyH_take (i := 3) (v := ?_) rfl (by kernel_rfl) (by kernel_rfl) (by kernel_rfl) (fun _ _ _ h => h) (Or.inl ⟨by rfl, ?_⟩) (by assumption) ?_
              rotate_left
              · intro w' hSw
                obtain ⟨s0, s1, s2, s3, s4, s5, s6, s7, s8, s9⟩ := hSw
                go_simp
                try with_reducible rfl
              simp only [Act.put, List.getElem_toArray, List.getElem_cons_zero, List.getElem_cons_succ, List.setIfInBounds_toArray, List.set_cons_zero, List.set_cons_succ]
              refine wpAnyH_take (i := 4) (v := ?_) rfl (by kernel_rfl) (by kernel_rfl) (by kernel_rfl) (fun _ _ _ h => h) (Or.inl ⟨by rfl, ?_⟩) (by assumption) ?_
              rotate_left
              · intro w' hSw
                obtain ⟨s0, s1, s2, s3, s4, s5, s6, s7, s8, s9⟩ := hSw
                go_simp
                try with_reducible rfl
              simp only [Act.put, List.getElem_toArray, List.getElem_cons_zero, List.getElem_cons_succ, List.setIfInBounds_toArray, List.set_cons_zero, List.set_cons_succ]
              refine wpAnyH_take (i := 5) (v := ?_) rfl (by kernel_rfl) (by kernel_rfl) (by kernel_rfl) (fun _ _ _ h => h) (Or.inl ⟨by rfl, ?_⟩) (by assumption) ?_
              rotate_left
              · intro w' hSw
                obtain ⟨s0, s1, s2, s3, s4, s5, s6, s7, s8, s9⟩ := hSw
                go_simp
                try with_reducible rfl
              simp only [Act.put, List.getElem_toArray, List.getElem_cons_zero, List.getElem_cons_succ, List.setIfInBounds_toArray, List.set_cons_zero, List.set_cons_succ]
              refine wpAnyH_take (i := 6) (v := ?_) rfl (by kernel_rfl) (by kernel_rfl) (by kernel_rfl) (fun _ _ _ h => h) (Or.inl ⟨by rfl, ?_⟩) (by assumption) ?_
              rotate_left
              · intro w' hSw
                obtain ⟨s0, s1, s2, s3, s4, s5, s6, s7, s8, s9⟩ := hSw
                go_simp
                try with_reducible rfl
              simp only [Act.put, List.getElem_toArray, List.getElem_cons_zero, List.getElem_cons_succ, List.setIfInBounds_toArray, List.set_cons_zero, List.set_cons_succ]
              refine wpAnyH_take (i := 7) (v := ?_) rfl (by kernel_rfl) (by kernel_rfl) (by kernel_rfl) (fun _ _ _ h => h) (Or.inl ⟨by rfl, ?_⟩) (by assumption) ?_
              rotate_left
              · intro w' hSw
                obtain ⟨s0, s1, s2, s3, s4, s5, s6, s7, s8, s9⟩ := hSw
                go_simp
                try with_reducible rfl
              simp only [Act.put, List.getElem_toArray, List.getElem_cons_zero, List.getElem_cons_succ, List.setIfInBounds_toArray, List.set_cons_zero, List.set_cons_succ]
              refine wpAnyH_take (i := 8) (v := ?_) rfl (by kernel_rfl) (by kernel_rfl) (by kernel_rfl) (fun _ _ _ h => h) (Or.inl ⟨by rfl, ?_⟩) (by assumption) ?_
              rotate_left
              · intro w' hSw
                obtain ⟨s0, s1, s2, s3, s4, s5, s6, s7, s8, s9⟩ := hSw
                go_simp
                try with_reducible rfl
              simp only [Act.put, List.getElem_toArray, List.getElem_cons_zero, List.getElem_cons_succ, List.setIfInBounds_toArray, List.set_cons_zero, List.set_cons_succ]
              refine wpAnyH_take (i := 9) (v := ?_) rfl (by kernel_rfl) (by kernel_rfl) (by kernel_rfl) (fun _ _ _ h => h) (Or.inl ⟨by rfl, ?_⟩) (by assumption) ?_
              rotate_left
              · intro w' hSw
                obtain ⟨s0, s1, s2, s3, s4, s5, s6, s7, s8, s9⟩ := hSw
                go_simp
                try with_reducible rfl
              simp only [Act.put, List.getElem_toArray, List.getElem_cons_zero, List.getElem_cons_succ, List.setIfInBounds_toArray, List.set_cons_zero, List.set_cons_succ]
              refine wpAnyH_take (i := 10) (v := ?_) rfl (by kernel_rfl) (by kernel_rfl) (by kernel_rfl) (fun _ _ _ h => h) (Or.inl ⟨by rfl, ?_⟩) (by assumption) ?_
              rotate_left
              · intro w' hSw
                obtain ⟨s0, s1, s2, s3, s4, s5, s6, s7, s8, s9⟩ := hSw
                go_simp
                try with_reducible rfl
              simp only [Act.put, List.getElem_toArray, List.getElem_cons_zero, List.getElem_cons_succ, List.setIfInBounds_toArray, List.set_cons_zero, List.set_cons_succ]
              refine wpAnyH_take (i := 11) (v := ?_) rfl (by kernel_rfl) (by kernel_rfl) (by kernel_rfl) (fun _ _ _ h => h) (Or.inl ⟨by rfl, ?_⟩) (by assumption) ?_
              rotate_left
              · intro w' hSw
                obtain ⟨s0, s1, s2, s3, s4, s5, s6, s7, s8, s9⟩ := hSw
                go_simp
                try with_reducible rfl
              simp only [Act.put, List.getElem_toArray, List.getElem_cons_zero, List.getElem_cons_succ, List.setIfInBounds_toArray, List.set_cons_zero, List.set_cons_succ]
              refine wpAnyH_take (i := 12) (v := ?_) rfl (by kernel_rfl) (by kernel_rfl) (by kernel_rfl) (fun _ _ _ h => h) (Or.inl ⟨by rfl, ?_⟩) (by assumption) ?_
              rotate_left
              · intro w' hSw
                obtain ⟨s0, s1, s2, s3, s4, s5, s6, s7, s8, s9⟩ := hSw
                go_simp
                try with_reducible rfl
              simp only [Act.put, List.getElem_toArray, List.getElem_cons_zero, List.getElem_cons_succ, List.setIfInBounds_toArray, List.set_cons_zero, List.set_cons_succ]
              refine wpAnyH_ready (rs := [13]) (by kernel_rfl) (by simp) ?_
              refine AllReadyH.cons rfl (fun K' hK => ?_) AllReadyH.nil
              go_simp
              refine hK.out _ _ ?_ (fun hHeld => ?_)
              · exact HK1.out _ _ _ _ _ _ _ _
              clear hK K'
              refine wpAnyH_take (i := 14) (v := ?_) rfl (by kernel_rfl) (by kernel_rfl) (by kernel_rfl) (fun _ _ _ h => h) (Or.inl ⟨by rfl, ?_⟩) (by assumption) ?_
              rotate_left
              · intro w' hSw
                obtain ⟨s0, s1, s2, s3, s4, s5, s6, s7, s8, s9⟩ := hSw
                go_simp
                try with_reducible rfl
              simp only [Act.put, List.getElem_toArray, List.getElem_cons_zero, List.getElem_cons_succ, List.setIfInBounds_toArray, List.set_cons_zero, List.set_cons_succ]
              refine wpAnyH_done (by kernel_rfl) ?_ _
              all_goals
                go_wp2
                refine bodyPost_ret (v := .tuple #[.agg #[.int .i64 (n1 : Int), .int .i64 (n2 : Int), .int .i64 (n3 : Int), .int .i64 (n4 : Int), .slice xa xs.length xc, .bool sh, .int .i64 g, .slice ta t.length tc], .bool true]) (by simp [results, Tryz.results25, go_sem, z0, z1, z2, z3, z4, z5, z6, z7]) rfl ?_
                exact HEND.out true (by rw [HF.out]; rfl) (fun d h => by rw [HF.out] at h; injection h with h; exact h.symm)
            · have HF : Hid (RD = none) := hide (by rw [HRF.out, if_neg hl])
              have hll : ((l9.length : Int) == 0) = false := beq_eq_false_iff_ne.2 (by have := List.length_pos_iff.2 hl; omega)
              clear hmn htl hk hlt hl HRF
              have HK0 : Hid (wr.drew.cell? ⟨w.heap.size + 1 + 1, 0, none⟩ = some (.int .i64 (n1 : Int)) ∧ wr.drew.cell? ⟨w.heap.size + 1 + 1, 1, none⟩ = some (.int .i64 (n2 : Int)) ∧ wr.drew.cell? ⟨w.heap.size + 1 + 1, 2, none⟩ = some (.int .i64 (n3 : Int)) ∧ wr.drew.cell? ⟨w.heap.size + 1 + 1, 3, none⟩ = some (.int .i64 (n4 : Int)) ∧ wr.drew.cell? ⟨w.heap.size + 1 + 1, 4, none⟩ = some (.slice xa xs.length xc) ∧ wr.drew.cell? ⟨w.heap.size + 1 + 1, 5, none⟩ = some (.bool sh) ∧ wr.drew.cell? ⟨w.heap.size + 1 + 1, 6, none⟩ = some (.int .i64 g) ∧ wr.drew.cell? ⟨w.heap.size + 1 + 1, 7, none⟩ = some (.slice ta t.length tc) ∧ wr.drew.cell? ⟨w.heap.size + 1, 0, none⟩ = some (.slice a9 l9.length c9) ∧ wr.drew.cell? ⟨w.heap.size + 1, 1, none⟩ = some (.bool true)) := hide (by obtain ⟨h0, h1, h2, h3, h4, h5, h6, h7⟩ := HD.out.box.all.1; exact ⟨h0, h1, h2, h3, h4, h5, h6, h7, HD.out.rdr.all.1.1, HD.out.rdr.all.1.2⟩)
              have HK1 : Hid (∀ x0 x1 x2 x3 x4 x5 x6 x7 : Value, (fun W : World => W.cell? ⟨w.heap.size + 1 + 1, 0, none⟩ = some (.int .i64 (n1 : Int)) ∧ W.cell? ⟨w.heap.size + 1 + 1, 1, none⟩ = some (.int .i64 (n2 : Int)) ∧ W.cell? ⟨w.heap.size + 1 + 1, 2, none⟩ = some (.int .i64 (n3 : Int)) ∧ W.cell? ⟨w.heap.size + 1 + 1, 3, none⟩ = some (.int .i64 (n4 : Int)) ∧ W.cell? ⟨w.heap.size + 1 + 1, 4, none⟩ = some (.slice xa xs.length xc) ∧ W.cell? ⟨w.heap.size + 1 + 1, 5, none⟩ = some (.bool sh) ∧ W.cell? ⟨w.heap.size + 1 + 1, 6, none⟩ = some (.int .i64 g) ∧ W.cell? ⟨w.heap.size + 1 + 1, 7, none⟩ = some (.slice ta t.length tc) ∧ W.cell? ⟨w.heap.size + 1, 0, none⟩ = some (.slice a9 l9.length c9) ∧ W.cell? ⟨w.heap.size + 1, 1, none⟩ = some (.bool true)) ((((((((wr.setCell ⟨w.heap.size, 0, none⟩ x0).setCell ⟨w.heap.size, 1, none⟩ x1).setCell ⟨w.heap.size, 2, none⟩ x2).setCell ⟨w.heap.size, 3, none⟩ x3).setCell ⟨w.heap.size, 4, none⟩ x4).setCell ⟨w.heap.size, 5, none⟩ x5).setCell ⟨w.heap.size, 6, none⟩ x6).setCell ⟨w.heap.size, 7, none⟩ x7).drew) := hide (fun x0 x1 x2 x3 x4 x5 x6 x7 => by
                have h1 := HD.out.box.eightD (R := w.heap.size) (by omega) x0 x1 x2 x3 x4 x5 x6 x7
                have h2 := HD.out.rdr.eightD (R := w.heap.size) (by omega) x0 x1 x2 x3 x4 x5 x6 x7
                obtain ⟨h0, h1, h3, h4, h5, h6, h7, h8⟩ := h1.all.1
                exact ⟨h0, h1, h3, h4, h5, h6, h7, h8, h2.all.1.1, h2.all.1.2⟩)
              clear p0 p1 p2 p3 p4 p5 p6 p7
              go_upto_region 29 with fail
              clear r0 r1
              refine wp_region_held_drew (S := fun W => W.cell? ⟨w.heap.size + 1 + 1, 0, none⟩ = some (.int .i64 (n1 : Int)) ∧ W.cell? ⟨w.heap.size + 1 + 1, 1, none⟩ = some (.int .i64 (n2 : Int)) ∧ W.cell? ⟨w.heap.size + 1 + 1, 2, none⟩ = some (.int .i64 (n3 : Int)) ∧ W.cell? ⟨w.heap.size + 1 + 1, 3, none⟩ = some (.int .i64 (n4 : Int)) ∧ W.cell? ⟨w.heap.size + 1 + 1, 4, none⟩ = some (.slice xa xs.length xc) ∧ W.cell? ⟨w.heap.size + 1 + 1, 5, none⟩ = some (.bool sh) ∧ W.cell? ⟨w.heap.size + 1 + 1, 6, none⟩ = some (.int .i64 g) ∧ W.cell? ⟨w.heap.size + 1 + 1, 7, none⟩ = some (.slice ta t.length tc) ∧ W.cell? ⟨w.heap.size + 1, 0, none⟩ = some (.slice a9 l9.length c9) ∧ W.cell? ⟨w.heap.size + 1, 1, none⟩ = some (.bool true)) (by kernel_rfl) HK0.out (fun hHeld => ?_)
              refine wpAnyH_take (i := 0) (v := ?_) rfl (by kernel_rfl) (by kernel_rfl) (by kernel_rfl) (fun _ _ _ h => h) (Or.inl ⟨by rfl, ?_⟩) (by assumption) ?_
              rotate_left
              · intro w' hSw
                obtain ⟨s0, s1, s2, s3, s4, s5, s6, s7, s8, s9⟩ := hSw
                go_simp
                try with_reducible rfl
              simp only [Act.put, List.getElem_toArray, List.getElem_cons_zero, List.getElem_cons_succ, List.setIfInBounds_toArray, List.set_cons_zero, List.set_cons_succ]
              refine wpAnyH_take (i := 1) (v := ?_) rfl (by kernel_rfl) (by kernel_rfl) (by kernel_rfl) (fun _ _ _ h => h) (Or.inl ⟨by rfl, ?_⟩) (by assumption) ?_
              rotate_left
              · intro w' hSw
                obtain ⟨s0, s1, s2, s3, s4, s5, s6, s7, s8, s9⟩ := hSw
                go_simp
                try with_reducible rfl
              simp only [Act.put, List.getElem_toArray, List.getElem_cons_zero, List.getElem_cons_succ, List.setIfInBounds_toArray, List.set_cons_zero, List.set_cons_succ]
              refine wpAnyH_take (i := 2) (v := ?_) rfl (by kernel_rfl) (by kernel_rfl) (by kernel_rfl) (fun _ _ _ h => h) (Or.inl ⟨by rfl, ?_⟩) (by assumption) ?_
              rotate_left
              · intro w' hSw
                obtain ⟨s0, s1, s2, s3, s4, s5, s6, s7, s8, s9⟩ := hSw
                go_simp
                try with_reducible rfl
              simp only [Act.put, List.getElem_toArray, List.getElem_cons_zero, List.getElem_cons_succ, List.setIfInBounds_toArray, List.set_cons_zero, List.set_cons_succ]
              refine wpAnyH_take (i := 3) (v := ?_) rfl (by kernel_rfl) (by kernel_rfl) (by kernel_rfl) (fun _ _ _ h => h) (Or.inl ⟨by rfl, ?_⟩) (by assumption) ?_
              rotate_left
              · intro w' hSw
                obtain ⟨s0, s1, s2, s3, s4, s5, s6, s7, s8, s9⟩ := hSw
                go_simp
                try with_reducible rfl
              simp only [Act.put, List.getElem_toArray, List.getElem_cons_zero, List.getElem_cons_succ, List.setIfInBounds_toArray, List.set_cons_zero, List.set_cons_succ]
              refine wpAnyH_take (i := 4) (v := ?_) rfl (by kernel_rfl) (by kernel_rfl) (by kernel_rfl) (fun _ _ _ h => h) (Or.inl ⟨by rfl, ?_⟩) (by assumption) ?_
              rotate_left
              · intro w' hSw
                obtain ⟨s0, s1, s2, s3, s4, s5, s6, s7, s8, s9⟩ := hSw
                go_simp
                try with_reducible rfl
              simp only [Act.put, List.getElem_toArray, List.getElem_cons_zero, List.getElem_cons_succ, List.setIfInBounds_toArray, List.set_cons_zero, List.set_cons_succ]
              refine wpAnyH_take (i := 5) (v := ?_) rfl (by kernel_rfl) (by kernel_rfl) (by kernel_rfl) (fun _ _ _ h => h) (Or.inl ⟨by rfl, ?_⟩) (by assumption) ?_
              rotate_left
              · intro w' hSw
                obtain ⟨s0, s1, s2, s3, s4, s5, s6, s7, s8, s9⟩ := hSw
                go_simp
                try with_reducible rfl
              simp only [Act.put, List.getElem_toArray, List.getElem_cons_zero, List.getElem_cons_succ, List.setIfInBounds_toArray, List.set_cons_zero, List.set_cons_succ]
              refine wpAnyH_take (i := 6) (v := ?_) rfl (by kernel_rfl) (by kernel_rfl) (by kernel_rfl) (fun _ _ _ h => h) (Or.inl ⟨by rfl, ?_⟩) (by assumption) ?_
              rotate_left
              · intro w' hSw
                obtain ⟨s0, s1, s2, s3, s4, s5, s6, s7, s8, s9⟩ := hSw
                go_simp
                try with_reducible rfl
              simp only [Act.put, List.getElem_toArray, List.getElem_cons_zero, List.getElem_cons_succ, List.setIfInBounds_toArray, List.set_cons_zero, List.set_cons_succ]
              refine wpAnyH_take (i := 7) (v := ?_) rfl (by kernel_rfl) (by kernel_rfl) (by kernel_rfl) (fun _ _ _ h => h) (Or.inl ⟨by rfl, ?_⟩) (by assumption) ?_
              rotate_left
              · intro w' hSw
                obtain ⟨s0, s1, s2, s3, s4, s5, s6, s7, s8, s9⟩ := hSw
                go_simp
                try with_reducible rfl
              simp only [Act.put, List.getElem_toArray, List.getElem_cons_zero, List.getElem_cons_succ, List.setIfInBounds_toArray, List.set_cons_zero, List.set_cons_succ]
              refine wpAnyH_take (i := 8) (v := ?_) rfl (by kernel_rfl) (by kernel_rfl) (by kernel_rfl) (fun _ _ _ h => h) (Or.inl ⟨by rfl, ?_⟩) (by assumption) ?_
              rotate_left
              · intro w' hSw
                obtain ⟨s0, s1, s2, s3, s4, s5, s6, s7, s8, s9⟩ := hSw
                go_simp
                try with_reducible rfl
              simp only [Act.put, List.getElem_toArray, List.getElem_cons_zero, List.getElem_cons_succ, List.setIfInBounds_toArray, List.set_cons_zero, List.set_cons_succ]
              refine wpAnyH_take (i := 9) (v := ?_) rfl (by kernel_rfl) (by kernel_rfl) (by kernel_rfl) (fun _ _ _ h => h) (Or.inl ⟨by rfl, ?_⟩) (by assumption) ?_
              rotate_left
              · intro w' hSw
                obtain ⟨s0, s1, s2, s3, s4, s5, s6, s7, s8, s9⟩ := hSw
                go_simp
                try with_reducible rfl
              simp only [Act.put, List.getElem_toArray, List.getElem_cons_zero, List.getElem_cons_succ, List.setIfInBounds_toArray, List.set_cons_zero, List.set_cons_succ]
              refine wpAnyH_take (i := 10) (v := ?_) rfl (by kernel_rfl) (by kernel_rfl) (by kernel_rfl) (fun _ _ _ h => h) (Or.inl ⟨by rfl, ?_⟩) (by assumption) ?_
              rotate_left
              · intro w' hSw
                obtain ⟨s0, s1, s2, s3, s4, s5, s6, s7, s8, s9⟩ := hSw
                go_simp
                try with_reducible rfl
              simp only [Act.put, List.getElem_toArray, List.getElem_cons_zero, List.getElem_cons_succ, List.setIfInBounds_toArray, List.set_cons_zero, List.set_cons_succ]
              refine wpAnyH_take (i := 11) (v := ?_) rfl (by kernel_rfl) (by kernel_rfl) (by kernel_rfl) (fun _ _ _ h => h) (Or.inl ⟨by rfl, ?_⟩) (by assumption) ?_
              rotate_left
              · intro w' hSw
                obtain ⟨s0, s1, s2, s3, s4, s5, s6, s7, s8, s9⟩ := hSw
                go_simp
                try with_reducible rfl
              simp only [Act.put, List.getElem_toArray, List.getElem_cons_zero, List.getElem_cons_succ, List.setIfInBounds_toArray, List.set_cons_zero, List.set_cons_succ]
              refine wpAnyH_take (i := 12) (v := ?_) rfl (by kernel_rfl) (by kernel_rfl) (by kernel_rfl) (fun _ _ _ h => h) (Or.inl ⟨by rfl, ?_⟩) (by assumption) ?_
              rotate_left
              · intro w' hSw
                obtain ⟨s0, s1, s2, s3, s4, s5, s6, s7, s8, s9⟩ := hSw
                go_simp
                try with_reducible rfl
              simp only [Act.put, List.getElem_toArray, List.getElem_cons_zero, List.getElem_cons_succ, List.setIfInBounds_toArray, List.set_cons_zero, List.set_cons_succ]
              refine wpAnyH_ready (rs := [13]) (by kernel_rfl) (by simp) ?_
              refine AllReadyH.cons rfl (fun K' hK => ?_) AllReadyH.nil
              go_simp
              refine hK.out _ _ ?_ (fun hHeld => ?_)
              · exact HK1.out _ _ _ _ _ _ _ _
              clear hK K'
              refine wpAnyH_take (i := 14) (v := ?_) rfl (by kernel_rfl) (by kernel_rfl) (by kernel_rfl) (fun _ _ _ h => h) (Or.inl ⟨by rfl, ?_⟩) (by assumption) ?_
              rotate_left
              · intro w' hSw
                obtain ⟨s0, s1, s2, s3, s4, s5, s6, s7, s8, s9⟩ := hSw
                go_simp
                try with_reducible rfl
              simp only [Act.put, List.getElem_toArray, List.getElem_cons_zero, List.getElem_cons_succ, List.setIfInBounds_toArray, List.set_cons_zero, List.set_cons_succ]
              refine wpAnyH_done (by kernel_rfl) ?_ _
              all_goals
                go_wp2
                refine bodyPost_ret (v := .tuple #[.agg #[.int .i64 (n1 : Int), .int .i64 (n2 : Int), .int .i64 (n3 : Int), .int .i64 (n4 : Int), .slice xa xs.length xc, .bool sh, .int .i64 g, .slice ta t.length tc], .bool false]) (by simp [results, Tryz.results25, go_sem, z0, z1, z2, z3, z4, z5, z6, z7]) rfl ?_
                exact HEND.out false (by rw [HF.out]; rfl) (fun d h => by rw [HF.out] at h; cases h)
          case pos =>
            have hki : (k : Int) < (mn : Int) := by omega
            have hsub : mn - k = (mn - (k + 1)) + 1 := by omega
            have hT1 := HT.out rfl
            rw [hsub] at hT1
            have hL0 := hL.out rfl
            have HC1 := hide (getAt HD.out HRV.out HV.out)
            unfold GotR at HC1
            obtain ⟨e1, he1⟩ : ∃ e1, e1 = l9.drop (dec62 l9).2 := ⟨_, rfl⟩
            obtain ⟨g1, hg1⟩ : ∃ g1, g1 = (true && decide (0 < (dec62 l9).2)) := ⟨_, rfl⟩
            obtain ⟨pn, hpn⟩ : ∃ pn, pn = (dec62 l9).1 := ⟨_, rfl⟩
            obtain ⟨e2, he2⟩ : ∃ e2, e2 = e1.drop (dec62 e1).2 := ⟨_, rfl⟩
            obtain ⟨g2, hg2⟩ : ∃ g2, g2 = (g1 && decide (0 < (dec62 e1).2)) := ⟨_, rfl⟩
            obtain ⟨qn, hqn⟩ : ∃ qn, qn = (dec62 e1).1 := ⟨_, rfl⟩
            obtain ⟨e3, he3⟩ : ∃ e3, e3 = e2.drop (dgS e2).2 := ⟨_, rfl⟩
            obtain ⟨g3, hg3⟩ : ∃ g3, g3 = (g2 && decide (0 < (dgS e2).2)) := ⟨_, rfl⟩
            obtain ⟨zn, hzn⟩ : ∃ zn, zn = (dgS e2).1 := ⟨_, rfl⟩
            have HST := hide (fineE_step (G := gEnd n1 n2 n3 n4 xs sh g) hpn he1 hg1 hqn he2 hg2 hzn he3 hg3 hT1)
            have HEI : Hid (EntI ⟨(pn : Int), (qn : Int), zn⟩) := hide (by
              have h1 := dec62_lt' l9
              have h2 := dec62_lt' e1
              rw [← hpn] at h1
              rw [← hqn] at h2
              exact ⟨⟨by show _ ≤ ((pn : Nat) : Int); omega, by show ((pn : Nat) : Int) ≤ _; omega⟩, ⟨by show _ ≤ ((qn : Nat) : Int); omega, by show ((qn : Nat) : Int) ≤ _; omega⟩, by rw [hzn]; exact dgS_i e2⟩)
            rw [← he1, ← hg1, ← hpn] at HC1
            have HE2 := hide he2
            have HG2 := hide hg2
            have HQN := hide hqn
            have HE3 := hide he3
            have HG3 := hide hg3
            have HZN := hide hzn
            clear he1 hg1 hpn he2 hg2 hqn he3 hg3 hzn hT1 HT HN0 hsub HEND HOB p0 p1 p2 p3 p4 p5 p6 p7 z0 z1 z2 z3 z4 z5 z6 z7 y0 y1 y2 y3 y4 y5 y6 y7 hne1 hne2 hne3 hne4 hL
            go_wp2_with fail
            refine HC1.out.mono ?_
            rintro e U1 ⟨b1, d1, rfl, hv, hd, ha⟩
            have HD1 := hide hd
            have HV1 := hide hv
            have HA1 := hide ha
            have HC2 := hide (getAt hd HRV.out hv)
            unfold GotR at HC2
            rw [← HE2.out, ← HG2.out, ← HQN.out] at HC2
            clear hv hd ha HC1 HV HD r0 r1 HE2 HG2 HQN
            go_wp2_with fail
            refine HC2.out.mono ?_
            rintro e U2 ⟨b2, d2, rfl, hv, hd, ha⟩
            have HA2 := hide ha
            have HC3 := hide (signedAt hd HRV.out hv)
            unfold GotR at HC3
            rw [← HE3.out, ← HG3.out, ← HZN.out] at HC3
            clear hv hd ha HC2 HV1 HD1 HE3 HG3 HZN
            go_wp2_with fail
            refine HC3.out.mono ?_
            rintro e U3 ⟨b3, d3, rfl, hv, hd, ha⟩
            have HV := hide hv
            have HD := hide hd
            have hks : U3.heap.size = wr.heap.size := by rw [ha.size, HA2.out.size, HA1.out.size]
            have HKB : Hid (∀ g, g ≠ w.heap.size + 1 → U3.heap[g]? = wr.heap[g]?) := hide (fun g hg => (ha.block g hg).trans ((HA2.out.block g hg).trans (HA1.out.block g hg)))
            have HO3 : Hid (OwnE U3 M (.slice ta t.length tc) t) := hide (hO.out.same (fun g hg => HKB.out g (by have := (World.ownsRow.lt hO.out g hg).1; omega)))
            have hs3 : M ≤ U3.heap.size := by rw [hks]; exact hSz.out
            have HRX3 : Hid (RdI U3 (.slice xa xs.length xc) xs) := hide (hRX.out.keepB (fun g hg => HKB.out g (by have := (HOX.out g hg).1; omega)))
            clear hv hd ha HC3 HA1 HA2 HKB hO hRX hks hSz
            obtain ⟨p7, q7⟩ := HD.out.box.cell 7
            have htl2 : t.length ≤ 1000000 := by omega
            have HTL := hide htl
            clear htl
            go_wp2_with (at_builtin; refine wpList_append_ent _ rfl _ _ rfl M _ t rfl HO3.out ⟨(pn : Int), (qn : Int), zn⟩ rfl htl2 hs3 ?_)
            intro v9 W9 ho9 hb9
            obtain ⟨ga, gc, hv⟩ := ho9.shape
            subst hv
            have HD9 := hide (HD.out.moreB hMD hb9)
            have HD10 := hide (HD9.out.setBox 7 (.slice ga (t ++ [(⟨(pn : Int), (qn : Int), zn⟩ : Ent)]).length gc))
            have HO10 : Hid (OwnE (W9.setCell ⟨w.heap.size + 1 + 1, 7, none⟩ (.slice ga (t ++ [(⟨(pn : Int), (qn : Int), zn⟩ : Ent)]).length gc)) M (.slice ga (t ++ [(⟨(pn : Int), (qn : Int), zn⟩ : Ent)]).length gc) (t ++ [⟨(pn : Int), (qn : Int), zn⟩])) := hide (ho9.same (fun g hg => Below.heap_setCell _ _ _ _ (by have h := (World.ownsRow.lt ho9 g hg).1; show g ≠ w.heap.size + 1 + 1; omega)))
            have HRX10 : Hid (RdI (W9.setCell ⟨w.heap.size + 1 + 1, 7, none⟩ (.slice ga (t ++ [(⟨(pn : Int), (qn : Int), zn⟩ : Ent)]).length gc)) (.slice xa xs.length xc) xs) := hide (HRX3.out.keepB (fun g hg => (Below.heap_setCell _ _ _ _ (by have h := (HOX.out g hg).1; show g ≠ w.heap.size + 1 + 1; omega)).trans (hb9.block g (HOX.out g hg).2)))
            have HSZ10 : Hid (M ≤ (W9.setCell ⟨w.heap.size + 1 + 1, 7, none⟩ (.slice ga (t ++ [(⟨(pn : Int), (qn : Int), zn⟩ : Ent)]).length gc)).heap.size) := hide (by have := hb9.size; simp only [World.setCell, Array.size_modify]; omega)
            have HI10 : Hid (∀ e ∈ t ++ [(⟨(pn : Int), (qn : Int), zn⟩ : Ent)], EntI e) := hide (fun e he => by
              rcases List.mem_append.1 he with h | h
              · exact hI.out e h
              · rw [List.mem_singleton.1 h]; exact HEI.out)
            have HL1 : Hid ((t ++ [(⟨(pn : Int), (qn : Int), zn⟩ : Ent)]).length = k + 1) := hide (by rw [List.length_append, List.length_singleton, HTL.out])
            have HLN : Hid (g3 = true → (k + 1) + e3.length ≤ 900000) := hide (fun h => by have := HST.out.2.2 h; omega)
            obtain ⟨s7, g7⟩ := HD9.out.box.cell 7
            obtain ⟨HT, HN0⟩ : Hid _ ∧ Hid _ := ⟨hide HST.out.1, hide HST.out.2.1⟩
            generalize t ++ [(⟨(pn : Int), (qn : Int), zn⟩ : Ent)] = T2 at *
            clear ho9 hb9 p7 q7 HD HO3 HD9 HRX3 hI HST HTL
            go_wp2
            go_roundw
            case rel => exact ⟨k + 1, T2, e3, g3, b3, d3, ga, gc, by go_num, by omega, HL1.out, HLN, HSZ10, HD10, HRX10, HO10, HI10, HV, HT, HN0⟩
            case measure => simp [intOf]; omega

end Go.Proofs.YtgpdbboieokldaaGreat
