/- Herlihy's engine: a new one. -/
import Derived.Test.YtiofhmlkgieclaaHerlO
namespace Go.Proofs.Ytiofhmlkgieclaa
open Go.RowKit Go.Maps

def mach0 (n : Nat) : Mc := cellsM (cellsM (cellsM (newM (n : Int)) (n : Int)) (n : Int)) 2

/-- A list that is new: all its blocks lie from B on. -/
structure NewL (B : Nat) (w : World) (l m mc ms : Nat) (nv sv : Value) (n : Nat) (s : St) : Prop where
  list : Bk 73 w l (lsC n m nv (.slice none 0 0) sv s)
  nodes : w.ownsRow B 86 7 nv 1 (ndCells n 0 [nd0])
  st : OwnI w B sv s.L
  mac : MacL w m mc ms (mach0 n) 0
  ge : B ≤ l ∧ B ≤ m ∧ B ≤ mc ∧ B ≤ ms

theorem NewL.below {B : Nat} {w w' : World} {l m mc ms : Nat} {nv sv : Value} {n : Nat} {s : St} (h : NewL B w l m mc ms nv sv n s) (hb : Below w.heap.size w w') : NewL B w' l m mc ms nv sv n s :=
  ⟨h.list.keep (hb.block _ h.list.lt), ownsRow_keep h.nodes fun _ hg => hb.block _ (row_bk h.nodes hg).choose_spec.lt, h.st.below hb (Nat.le_refl _), h.mac.keep (hb.block _ h.mac.head.lt) (hb.block _ h.mac.cells.lt) (hb.block _ h.mac.steps.lt), h.ge⟩

theorem row_mono {w : World} {B base n s : Nat} {t : TypeId} {v : Value} {xs : List Value} (h : w.ownsRow B t s v n xs) (hB : base ≤ B) : w.ownsRow base t s v n xs := by
  obtain ⟨h1, h2⟩ := h
  refine ⟨h1, ?_⟩
  rcases h2 with h2 | ⟨g, cap, cur, hv, hb, r⟩
  · exact .inl h2
  · exact .inr ⟨g, cap, cur, hv, by omega, r⟩

theorem row_up {w : World} {B n s : Nat} {t : TypeId} {v : Value} {xs : List Value} (h : w.ownsRow 0 t s v n xs) (hB : ∀ g, v.ownBlock = some g → B ≤ g) : w.ownsRow B t s v n xs := by
  obtain ⟨h1, h2⟩ := h
  refine ⟨h1, ?_⟩
  rcases h2 with h2 | ⟨g, cap, cur, hv, hb, r⟩
  · exact .inl h2
  · exact .inr ⟨g, cap, cur, hv, hB g (by rw [hv]; rfl), r⟩

theorem cells_len (M : Mc) {n : Int} (h : 1 ≤ n ∧ n ≤ 1048576) : (cellsM M n).len = M.len + n.toNat := by unfold cellsM; rw [if_pos h]

theorem cells_rest (M : Mc) (n : Int) : (cellsM M n).procs = M.procs ∧ (cellsM M n).c = M.c ∧ (cellsM M n).s = M.s := by unfold cellsM; split <;> exact ⟨rfl, rfl, rfl⟩

theorem mach0_rel (s : St) {n : Nat} (h1 : 1 ≤ n) (h2 : n ≤ 64) : HRel (newEg s n) (mach0 n) := by
  have r1 := cells_rest (newM (n : Int)) (n : Int)
  have r2 := cells_rest (cellsM (newM (n : Int)) (n : Int)) (n : Int)
  have r3 := cells_rest (cellsM (cellsM (newM (n : Int)) (n : Int)) (n : Int)) 2
  have hc : (mach0 n).c = fun _ => 0 := r3.2.1.trans (r2.2.1.trans r1.2.1)
  have hs : (mach0 n).s = fun _ => 0 := r3.2.2.trans (r2.2.2.trans r1.2.2)
  have hp : (mach0 n).procs = (n : Int) := r3.1.trans (r2.1.trans r1.1)
  have hl : (mach0 n).len = 2 * n + 2 := by
    unfold mach0
    rw [cells_len _ ⟨by omega, by omega⟩, cells_len _ ⟨by omega, by omega⟩, cells_len _ ⟨by omega, by omega⟩]
    show 0 + _ + _ + _ = _
    simp
    omega
  exact ⟨hp, by rw [hl]; show _ = 2 * n + 2 * 1; omega, fun p _ => by rw [hc]; rfl, fun p _ => by rw [hc]; rfl, fun p _ => by rw [hc]; rfl, fun p _ => by rw [hc]; rfl, fun p _ => by rw [hs]; rfl⟩

set_option maxRecDepth 100000 in
set_option maxHeartbeats 2000000 in
theorem newList_any {w : World} {v : Value} {s : St} (hs : StV w v s) (hlen : s.L.length ≤ 1000000) {n : Nat} (h1 : 1 ≤ n) (h2 : n ≤ 64) :
    Calls Try.prog 25 #[v, .int .i64 (n : Int)] w fun r w' => ∃ l m mc ms nv sv, r = .returned (ptr l) ∧ NewL w.heap.size w' l m mc ms nv sv n s ∧ Below w.heap.size w w' := by
  obtain ⟨vl, rfl, hr, hki, hei⟩ := hs
  obtain ⟨kind, ls, shut, eng⟩ := s
  dsimp only at hr hlen hki hei ⊢
  obtain ⟨B, hB⟩ : ∃ B, B = w.heap.size := ⟨_, rfl⟩
  have HB := hide hB
  have HCL : Hid (∀ W, Below w.heap.size w W → Calls Try.prog 33 #[vl] W fun e w' => ∃ v', e = .returned v' ∧ OwnI w' W.heap.size v' ls ∧ Below W.heap.size W w') := hide fun W h => cloneI_any vl ls W (hr.below h (Nat.le_refl _)) (by omega)
  have HN : Hid (∀ W : World, Calls Try.prog 36 #[.int .i64 (n : Int)] W fun e w' => ∃ p, e = .returned (ptr p) ∧ W.heap.size ≤ p ∧ Mac (fun k => k < W.heap.size) w' p (newM (n : Int)) 0 ∧ Below W.heap.size W w') := hide fun W => newM_any (n : Int) W ⟨by omega, by omega⟩
  obtain ⟨C, hC⟩ : ∃ C : Int, C = (n : Int) := ⟨_, rfl⟩
  have hrv : ∃ a nn c, vl = .slice a nn c := by
    obtain ⟨a, c, hv, _⟩ := hr
    exact ⟨a, _, c, hv⟩
  obtain ⟨va, vn, vc, rfl⟩ := hrv
  have HBA : Hid (Below w.heap.size w (w.alloc (.cells #[.int .i64 kind, .slice va vn vc, .bool shut, .int .i64 eng] 24))) := hide ((Below.refl _ _).alloc (Nat.le_refl _) _)
  have HX0 : Hid (Bk 24 (w.alloc (.cells #[.int .i64 kind, .slice va vn vc, .bool shut, .int .i64 eng] 24)) w.heap.size #[.int .i64 kind, .slice va vn vc, .bool shut, .int .i64 eng]) := hide (heap_alloc_new _ _)
  have hsz : (w.alloc (.cells #[.int .i64 kind, .slice va vn vc, .bool shut, .int .i64 eng] 24)).heap.size = w.heap.size + 1 := by simp
  have HSZ := hide hsz
  clear hr hlen hki hei hsz
  go_enter Try.func25, Try.ntmps25
  go_wp2_with fail
  refine (HCL.out _ HBA.out).mono ?_
  rintro r W1 ⟨v1, rfl, ho1, hb1⟩
  have hx1 := HX0.out.keep (hb1.block _ HX0.out.lt)
  have HX1 := hide hx1
  have HB1 := hide (HBA.out.trans (hb1.mono HBA.out.size))
  have HO1 := hide ho1
  obtain ⟨ca, cc, rfl⟩ := ho1.shape
  obtain ⟨x1, f1⟩ := hx1.cell 1 rfl
  clear hx1 ho1 hb1 HX0
  go_upto_region 2 with fail
  obtain ⟨W2, hW2⟩ : ∃ W2, W2 = W1.setCell ⟨w.heap.size, 1, none⟩ (.slice ca ls.length cc) := ⟨_, rfl⟩
  rw [← hW2]
  have hX2 : Bk 24 W2 w.heap.size #[.int .i64 kind, .slice ca ls.length cc, .bool shut, .int .i64 eng] := by rw [hW2]; exact HX1.out.set 1 _
  have HX2 := hide hX2
  have HB2 : Hid (Below w.heap.size w W2) := hide (by rw [hW2]; exact HB1.out.setCell (Nat.le_refl _) _)
  have HO2 : Hid (OwnI W2 w.heap.size (.slice ca ls.length cc) ls) := hide (by
    rw [hW2]
    have h3 : OwnI (W1.setCell ⟨w.heap.size, 1, none⟩ (.slice ca ls.length cc)) _ (.slice ca ls.length cc) ls := ownsRow_keep HO1.out fun g hg => Below.heap_setCell _ _ _ _ (by
      have := HO1.out.fresh g hg
      rw [HSZ.out] at this
      show g ≠ w.heap.size
      omega)
    exact h3.mono (by rw [HSZ.out]; omega))
  have HXD : Hid (∀ W, Below W2.heap.size W2 W → W.cell? ⟨w.heap.size, 0, none⟩ = some (.int .i64 kind) ∧ W.cell? ⟨w.heap.size, 1, none⟩ = some (.slice ca ls.length cc) ∧ W.cell? ⟨w.heap.size, 2, none⟩ = some (.bool shut) ∧ W.cell? ⟨w.heap.size, 3, none⟩ = some (.int .i64 eng)) := hide fun W hb => by
    have hx := HX2.out.keep (hb.block _ HX2.out.lt)
    exact ⟨(hx.cell 0 rfl).1, (hx.cell 1 rfl).1, (hx.cell 2 rfl).1, (hx.cell 3 rfl).1⟩
  have HD2 := hide ((Below.refl W2.heap.size W2).drew)
  have HN2 := hide (HN.out W2.drew)
  have HS2 := hide (HXD.out _ HD2.out)
  clear hW2 hX2 x1 f1 HX1 HO1 HB1
  go_region_held (fun W => W.cell? ⟨w.heap.size, 0, none⟩ = some (.int .i64 kind) ∧ W.cell? ⟨w.heap.size, 1, none⟩ = some (.slice ca ls.length cc) ∧ W.cell? ⟨w.heap.size, 2, none⟩ = some (.bool shut) ∧ W.cell? ⟨w.heap.size, 3, none⟩ = some (.int .i64 eng))
    (first | (with_reducible exact HS2.out) | (with_reducible exact HS3.out) | exact HXD.out _ (HD3.out.alloc (by have := HD3.out.size; omega) _))
    (first | (go_at_call 36; refine HN2.out.mono ?_; rintro r W3 ⟨mb, rfl, hge, hm3, hb3⟩; have HG3 := hide hge; have HM3 := hide hm3; have HD3 := hide (HD2.out.trans (hb3.mono HD2.out.size)); have HS3 := hide (HXD.out _ HD3.out); clear hge hm3 hb3))
  all_goals
    obtain ⟨mc, ms, hmm, hk1, hk2, hk3⟩ := HM3.out
    have HGE : Hid (w.heap.size ≤ mb ∧ w.heap.size ≤ mc ∧ w.heap.size ≤ ms) := hide (by
      have a := HB2.out.size
      have b : W2.drew.heap.size = W2.heap.size := rfl
      rw [b] at hk1 hk2 hk3
      omega)
    go_upto_region 3 with fail
    obtain ⟨lb, hlb⟩ : ∃ lb, lb = W3.heap.size := ⟨_, rfl⟩
    obtain ⟨W4, hW4⟩ : ∃ W4, W4 = W3.alloc (.cells #[.int .i64 (n : Int), ptr mb, .int .i64 0, .int .i64 0, .slice none 0 0, .slice none 0 0, .int .i64 kind, .slice ca ls.length cc, .bool shut, .int .i64 eng] 73) := ⟨_, rfl⟩
    have hL4 : Bk 73 W4 lb #[.int .i64 (n : Int), ptr mb, .int .i64 0, .int .i64 0, .slice none 0 0, .slice none 0 0, .int .i64 kind, .slice ca ls.length cc, .bool shut, .int .i64 eng] := by rw [hW4, hlb]; exact heap_alloc_new _ _
    have hm4 : MacL W4 mb mc ms (newM (n : Int)) 0 := by rw [hW4]; exact hmm.alloc _
    have hB4 : Below W2.heap.size W2 W4 := by rw [hW4]; exact HD3.out.alloc (by have := HD3.out.size; omega) _
    rw [← hW4, ← hlb]
    have hlm : lb ≠ mb := by have := hmm.head.lt; omega
    have HLGE : Hid (w.heap.size ≤ lb) := hide (by have a := HB2.out.size; have b := HD3.out.size; omega)
    have HML := hide (And.intro hlm (And.intro (hL4.ne hm4.head (by decide)) (And.intro (hm4.cells.apart hL4) (hm4.steps.apart hL4))))
    have HL4 := hide hL4
    have HMH := hide hm4.head
    have HB4 := hide hB4
    have HC4 : Hid (Calls Try.prog 37 #[ptr mb, .int .i64 (n : Int)] W4 fun e w' => e = .returned (.int .i64 0) ∧ MacL w' mb mc ms (cellsM (newM (n : Int)) (n : Int)) 0 ∧ Only (fun k => k = mb) W4 w') := hide (cellsM_any hm4 (n : Int) (by show 0 + _ ≤ _; simp; omega))
    have d1 := (hL4.cell 1 rfl).1
    obtain ⟨d2, e2⟩ := hL4.cell 2 rfl
    clear hW4 hlb hm4 hL4 hB4 hmm hk1 hk2 hk3 HS2 HM3 HN2 hlm
    go_wp2_with fail
    refine HC4.out.mono ?_
    rintro r W5 ⟨rfl, hm5, ho5⟩
    have hL5 := HL4.out.only ho5 HML.out.1
    obtain ⟨W6, hW6⟩ : ∃ W6, W6 = W5.setCell ⟨lb, 2, none⟩ (.int .i64 0) := ⟨_, rfl⟩
    have hm6 : MacL W6 mb mc ms (cellsM (newM (n : Int)) (n : Int)) 0 := by rw [hW6]; exact hm5.keep (Below.heap_setCell _ _ _ _ HML.out.1.symm) (Below.heap_setCell _ _ _ _ HML.out.2.2.1.symm) (Below.heap_setCell _ _ _ _ HML.out.2.2.2.symm)
    have hL6 : Bk 73 W6 lb #[.int .i64 (n : Int), ptr mb, .int .i64 0, .int .i64 0, .slice none 0 0, .slice none 0 0, .int .i64 kind, .slice ca ls.length cc, .bool shut, .int .i64 eng] := by rw [hW6]; exact hL5.set 2 _
    have hlt4 : lb < W4.heap.size := HL4.out.lt
    have ho6 : Only (fun k => k = mb ∨ k = lb) W4 W6 := by rw [hW6]; exact (ho5.mono fun _ k => .inl k).setCell 2 (fun _ => .inr rfl) _
    have HO6 := hide ho6
    have HL6 := hide hL6
    have d2' := (hL5.cell 2 rfl).1
    have e2' := (hL5.cell 2 rfl).2
    have HC6 : Hid (Calls Try.prog 37 #[ptr mb, .int .i64 (n : Int)] W6 fun e w' => e = .returned (.int .i64 (n : Int)) ∧ MacL w' mb mc ms (cellsM (cellsM (newM (n : Int)) (n : Int)) (n : Int)) 0 ∧ Only (fun k => k = mb) W6 w') := hide (by
      have hl1 : ((cellsM (newM (n : Int)) (n : Int)).len : Int) = (n : Int) := by
        rw [cells_len _ ⟨by omega, by omega⟩]
        show ((0 + (n : Int).toNat : Nat) : Int) = _
        omega
      have := cellsM_any hm6 (n : Int) (by rw [cells_len _ ⟨by omega, by omega⟩]; show 0 + _ + _ ≤ _; simp; omega)
      rw [hl1] at this
      exact this)
    have d6 := (hL6.cell 1 rfl).1
    clear hm5 ho5 hm6 hL5 hL6 ho6 HC4 d1 d2 e2
    go_upto_region 4 with fail
    rw [← hW6]
    clear hW6 d2' e2'
    go_wp2_with fail
    refine HC6.out.mono ?_
    rintro r W7 ⟨rfl, hm7, ho7⟩
    have hL7 := HL6.out.only ho7 HML.out.1
    obtain ⟨W8, hW8⟩ : ∃ W8, W8 = W7.setCell ⟨lb, 3, none⟩ (.int .i64 (n : Int)) := ⟨_, rfl⟩
    have hm8 : MacL W8 mb mc ms (cellsM (cellsM (newM (n : Int)) (n : Int)) (n : Int)) 0 := by rw [hW8]; exact hm7.keep (Below.heap_setCell _ _ _ _ HML.out.1.symm) (Below.heap_setCell _ _ _ _ HML.out.2.2.1.symm) (Below.heap_setCell _ _ _ _ HML.out.2.2.2.symm)
    have hL8 : Bk 73 W8 lb (lsC n mb (.slice none 0 0) (.slice none 0 0) (.slice ca ls.length cc) ⟨kind, ls, shut, eng⟩) := by rw [hW8]; exact hL7.set 3 _
    have ho8 : Only (fun k => k = mb ∨ k = lb) W4 W8 := by
      rw [hW8]
      exact (HO6.out.trans (ho7.mono fun _ k => .inl k) fun _ _ k => k).setCell 3 (fun _ => .inr rfl) _
    have HM8 := hide hm8
    have HL8 := hide hL8
    have HO8 := hide ho8
    have d7 := (hL7.cell 3 rfl).1
    have e7 := (hL7.cell 3 rfl).2
    have hBW8 : Below w.heap.size w W8 := by
      have a : Below w.heap.size w W4 := HB2.out.trans (HB4.out.mono HB2.out.size)
      have b : Below w.heap.size W4 W8 := ho8.below a.size fun k hk => by
        rcases hk with hk | hk
        · rw [hk]; exact HGE.out.1
        · rw [hk]; exact HLGE.out
      exact a.trans b
    have HBW8 := hide hBW8
    have hO8 : OwnI W8 w.heap.size (.slice ca ls.length cc) ls := by
      have a := HO2.out.below HB4.out (Nat.le_refl _)
      refine ownsRow_keep a fun g hg => ho8.block g (row_bk a hg).choose_spec.lt ?_
      rintro (k | k)
      · rw [k] at hg
        exact ((row_bk a hg).choose_spec.ne HMH.out (by decide)) rfl
      · rw [k] at hg
        exact ((row_bk a hg).choose_spec.ne HL4.out (by decide)) rfl
    have HO8' := hide hO8
    have HCN : Hid (Calls Try.prog 38 #[ptr lb, .int .i64 0, .int .i64 0, .agg #[.int .i64 0, .int .i64 0, .int .i64 0]] W8 fun r w' => r = .returned (.int .i64 ((0 : Nat) : Int)) ∧ ∃ nv, NewL w.heap.size w' lb mb mc ms nv (.slice ca ls.length cc) n ⟨kind, ls, shut, eng⟩ ∧ Below w.heap.size w w') := hide (by
      have hl2 : ((cellsM (cellsM (newM (n : Int)) (n : Int)) (n : Int)).len : Int) = 2 * (n : Int) := by
        rw [cells_len _ ⟨by omega, by omega⟩, cells_len _ ⟨by omega, by omega⟩]
        show ((0 + (n : Int).toNat + (n : Int).toNat : Nat) : Int) = _
        omega
      refine newNode_raw (M := cellsM (cellsM (newM (n : Int)) (n : Int)) (n : Int)) (N := 0) (mc := mc) (ms := ms) (Z := 2 * (n : Int)) (XS := []) ⟨by omega, by omega⟩ (by omega) (hide fun W hb => ?_) HL8 (hide (World.ownsRow_nil _ _ _ _)) (hide fun g hg => by cases hg) (hide ⟨HML.out.1, HM8.out.head.lt⟩) (hide fun W1 W w' nv' a1 a2 a3 a4 a5 a6 a7 => ?_)
      · have hm := HM8.out.keep (hb.block _ HM8.out.head.lt) (hb.block _ HM8.out.cells.lt) (hb.block _ HM8.out.steps.lt)
        have := cellsM_any hm 2 (by omega)
        rw [hl2] at this
        exact this
      · have hs8 : w.heap.size ≤ W8.heap.size := HBW8.out.size
        have hs1 := a1.size
        have hs3 := a3.size
        have o1 : Only (fun k => k = mb) W8 W := (Only.ofBelow a1).trans a3 fun _ _ k => k
        have o2 : Only (fun k => k = mb) W8 w' := o1.trans a4 fun _ _ k => by cases k
        have o3 : Only (fun k => k = mb ∨ k = lb) W8 (w'.setCell ⟨lb, 4, none⟩ nv') := (o2.mono fun _ k => .inl k).setCell 4 (fun _ => .inr rfl) _
        have hnb : ∀ g, nv'.ownBlock = some g → W.heap.size ≤ g := fun g hg => by
          rcases a6 with a6 | ⟨j, hj, hj2⟩
          · rw [a6] at hg; cases hg
          · rw [hj] at hg
            obtain rfl := Option.some.inj hg
            exact hj2
        have hmlb : mb ≠ lb := HML.out.1.symm
        refine ⟨nv', ⟨a7, ?_, ?_, ?_, ⟨HLGE.out, HGE.out⟩⟩, ?_⟩
        · have h5 : w'.ownsRow 0 86 7 nv' 1 (ndCells n 0 [nd0]) := a5
          refine row_up (ownsRow_keep h5 fun g hg => Below.heap_setCell _ _ _ _ ?_) fun g hg => by have := hnb g hg; omega
          have h1 := hnb g hg
          have h2 := HL8.out.lt
          show g ≠ lb
          omega
        · refine ownsRow_keep HO8'.out fun g hg => o3.block g (row_bk HO8'.out hg).choose_spec.lt ?_
          rintro (k | k)
          · rw [k] at hg
            exact ((row_bk HO8'.out hg).choose_spec.ne HM8.out.head (by decide)) rfl
          · rw [k] at hg
            exact ((row_bk HO8'.out hg).choose_spec.ne HL8.out (by decide)) rfl
        · have e1 : ∀ k, k < W.heap.size → k ≠ lb → (w'.setCell ⟨lb, 4, none⟩ nv').heap[k]? = W.heap[k]? := fun k hk hn => by
            rw [Below.heap_setCell _ _ _ _ hn]
            exact a4.block k hk (fun h => by cases h)
          exact a2.keep (e1 _ a2.head.lt hmlb) (e1 _ a2.cells.lt HML.out.2.2.1.symm) (e1 _ a2.steps.lt HML.out.2.2.2.symm)
        · exact HBW8.out.trans (o3.below hs8 fun k hk => by
            rcases hk with hk | hk
            · rw [hk]; exact HGE.out.1
            · rw [hk]; exact HLGE.out))
    clear hm7 ho7 hL7 hm8 hL8 ho8 hBW8 hO8 d6 HC6
    go_upto_region 5 with fail
    rw [← hW8]
    clear hW8 d7 e7
    go_wp2_with fail
    refine HCN.out.mono ?_
    rintro r W9 ⟨rfl, nv, hn9, hb9⟩
    have HN9 := hide hn9
    have HB9 := hide hb9
    clear hn9 hb9
    go_wp2
    go_ret
    exact ⟨lb, mb, mc, ms, nv, _, rfl, HN9.out, HB9.out⟩

end Go.Proofs.Ytiofhmlkgieclaa
