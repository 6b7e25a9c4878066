/- The statements' run. -/
import Derived.Test.YtedfacbngefhnaaPsimX
namespace Go.Proofs.Ytedfacbngefhnaa
open Go.RowKit Go.Maps

theorem take_oneV {l : List EvP} {k : Nat} {x : EvP} (h : l[k]? = some x) : l.take (k + 1) = l.take k ++ [x] := by
  rw [List.take_add_one, h]
  rfl

/-- A history behind the first k of a script. -/
def runK (n : Nat) (e0 : Eg) (l : List EvP) (k : Nat) : RunS Eg := runL herlM n 0 (l.take k) (runS0 n e0)

theorem runK_next (n : Nat) (e0 : Eg) {l : List EvP} {k : Nat} {x : EvP} (h : l[k]? = some x) : runK n e0 l (k + 1) = runStep herlM n (k : Int) x (runK n e0 l k) := by
  unfold runK
  rw [take_oneV h, runL_snoc]
  have hk : k < l.length := (List.getElem?_eq_some_iff.1 h).1
  congr 1
  rw [List.length_take]
  omega

theorem runStep_len (n : Nat) (i : Int) (v : EvP) (R : RunS Eg) : (runStep herlM n i v R).out.length ≤ R.out.length + 1 := by
  unfold runStep
  split
  · omega
  · split
    · split
      · simp
      · omega
    · split
      · split
        · simp
        · simp
      · omega

theorem runL_len (n : Nat) : ∀ (l : List EvP) (i : Nat) (R : RunS Eg), (runL herlM n i l R).out.length ≤ R.out.length + l.length
  | [], i, R => Nat.le_refl _
  | v :: l, i, R => by
    rw [runL, List.length_cons]
    have h1 := runL_len n l (i + 1) (runStep herlM n (i : Int) v R)
    have h2 := runStep_len n (i : Int) v R
    omega

theorem runK_len (n : Nat) (e0 : Eg) (l : List EvP) (k : Nat) : (runK n e0 l k).out.length ≤ k := by
  have h := runL_len n (l.take k) 0 (runS0 n e0)
  have h0 : (runS0 n e0).out.length = 0 := rfl
  rw [List.length_take, h0] at h
  unfold runK
  omega

theorem runK_inv {n : Nat} {e0 : Eg} (hf : Fresh herlM n e0) (l : List EvP) (k : Nat) (hk : k ≤ l.length) : HInv herlM n (k : Int) (runK n e0 l k) := by
  have := runL_inv herlM_ok (l.take k) 0 (runS0 n e0) hf.inv
  rw [List.length_take, Nat.zero_add, Nat.min_eq_left hk] at this
  exact this

theorem RunM.mono {K : Nat → Prop} {w : World} {eb n gm go_ : Nat} {vo : Value} {R : RunS Eg} {N N' : Nat} (h : RunM K w eb n gm go_ vo R N) (hN : N ≤ N') : RunM K w eb n gm go_ vo R N' := ⟨h.eng.mono hN, h.many, h.opn, h.out, h.ne⟩

theorem EgM.seq {K : Nat → Prop} {w : World} {eb : Nat} {e : Eg} {N : Nat} (h : EgM K w eb e N) (p : Nat) (hp : p < e.n) : (e.ps p).seq ≤ N := by
  obtain ⟨L, M, g, h1, h2, h3, -⟩ := h
  exact h3.seq p hp

theorem OwnI.cellV {w : World} {g n : Nat} {l : List Int} (h : OwnI w 0 (.slice (some ⟨g, 0, none⟩) n n) l) {j : Nat} (hj : j < l.length) : w.cell? ⟨g, j, none⟩ = some (.int .i64 (l.getD j 0)) ∧ w.frozen? ⟨g, j, none⟩ = false := by
  rcases h.2 with ⟨hv, _⟩ | ⟨g', cap, cur, hv, _, hg, _⟩
  · simp at hv
  · simp only [Value.slice.injEq, Option.some.injEq, Addr.mk.injEq, and_true] at hv
    obtain ⟨rfl, rfl, rfl⟩ := hv
    exact ⟨by rw [World.ownsRow.cellAt h j (by omega), intCells_get l j hj], frozen_of_row w g j cur _ hg⟩

set_option maxRecDepth 100000 in
set_option maxHeartbeats 8000000 in
theorem run_any {K : Nat → Prop} {w : World} {eb : Nat} {e0 : Eg} {N0 : Nat} (h : EgM K w eb e0 N0) (hKw : ∀ k, K k → k < w.heap.size) {n : Nat} (hn : n ≤ 64) (hf : Fresh herlM n e0) {vl : Value} {l : List EvP} (hl : RdV w vl l) (hlK : ∀ W, Only (fun k => ¬ K k) w W → RdV W vl l) (hlen : l.length ≤ 1500) (hN : N0 ≤ 5000) :
    Calls Try.prog 21 #[ptr eb, .int .i64 (n : Int), vl] w fun r w' => ∃ v', r = .returned v' ∧ OwnC w' v' (runK n e0 l l.length).out ∧ EgM K w' eb (runK n e0 l l.length).e (N0 + 2 * l.length) ∧ Only (fun k => ¬ K k) w w' := by
  obtain ⟨la, lc, rfl, hlc, hcm, -⟩ := id hl
  have hml : (l.length : Int) ≤ 9223372036854775807 := by omega
  obtain ⟨gm, hgm⟩ : ∃ gm, gm = w.heap.size := ⟨_, rfl⟩
  obtain ⟨w1, hw1⟩ : ∃ w1, w1 = w.alloc (.cells (intCells (List.replicate n 0)).toArray 3) := ⟨_, rfl⟩
  obtain ⟨go_, hgo⟩ : ∃ go_, go_ = w1.heap.size := ⟨_, rfl⟩
  obtain ⟨w2, hw2⟩ : ∃ w2, w2 = w1.alloc (.cells (intCells (List.replicate n 0)).toArray 3) := ⟨_, rfl⟩
  have hr1 : ∀ W, (Instr.makeSlice 22 (.int .i64 (n : Int)) (.int .i64 (n : Int))).run Try.prog W = .ok (.slice (some ⟨W.heap.size, 0, none⟩) n n) (W.alloc (.cells (intCells (List.replicate n 0)).toArray 3)) := fun W => run_make_intsV W n (by omega)
  have hs1 : w1.heap.size = w.heap.size + 1 := by rw [hw1]; simp
  have mk : ∀ W : World, OwnI (W.alloc (.cells (intCells (List.replicate n 0)).toArray 3)) 0 (.slice (some ⟨W.heap.size, 0, none⟩) n n) (List.replicate n 0) := fun W => by
    refine ⟨by simp [intCells], .inr ⟨W.heap.size, n, _, by simp, Nat.zero_le _, heap_alloc_new _ _, by simp, by unfold maxLen; omega, by simp [intCells], by simp [intCells]⟩⟩
  have ho2 : Only (fun k => ¬ K k) w w2 := by rw [hw2, hw1]; exact ((Only.refl _ _).alloc _).alloc _
  have H0 : Hid (RunM K w2 eb n gm go_ (.slice none 0 0) (runK n e0 l 0) (N0 + 2 * 0)) := hide (by
    have hb2 : Below w.heap.size w w2 := by rw [hw2, hw1]; exact ((Below.refl _ _).alloc (Nat.le_refl _) _).alloc (by simp) _
    have h2 := h.fresh.only (G := fun _ => False) (Only.ofBelow hb2) fun _ a => a.elim
    refine ⟨(h2.weaken fun k hk => ?_).mono (Nat.le_add_right _ _), ?_, ?_, World.ownsRow_nil _ _ _ _, by omega⟩
    · rcases hk with hk | hk | hk | hk
      · exact .inl hk
      · exact .inr (by omega)
      · exact .inr (by omega)
      · cases hk
    · rw [hw2, hgm]
      have := mk w
      rw [← hw1] at this
      exact World.ownsRow.alloc this _
    · rw [hw2, hgo]
      exact mk w1)
  have HO2 := hide ho2
  have HLK := hide hlK
  have HKW := hide hKw
  have HF := hide hf
  have HNL : Hid (N0 + 2 * l.length ≤ 10000) := hide (by omega)
  clear hs1 mk ho2 h hKw hf hl hlK hN hlc hcm hlen
  have HW1 := hide hw1
  have HW2 := hide hw2
  have HGM := hide hgm
  have HGO := hide hgo
  clear hw1 hw2 hgm hgo
  go_enter Try.func21, Try.ntmps21
  go_upto_region 3 with fail
  rw [← HW1.out, ← HGM.out]
  go_upto_region 4 with fail
  rw [← HW2.out, ← HGO.out]
  clear hr1
  go_wp2
  go_loopw [7, 10] (fun vo vi wr => ∃ k : Nat, vi = .int .i64 (k : Int) ∧ k ≤ l.length ∧ Hid (RunM K wr eb n gm go_ vo (runK n e0 l k) (N0 + 2 * k)) ∧ Hid (Only (fun k => ¬ K k) w wr) ∧ Hid (∀ j, vo.ownBlock = some j → w.heap.size ≤ j)) (fun _ vi _ => l.length - (intOf vi).toNat)
  case atStart => exact ⟨0, rfl, Nat.zero_le _, H0, HO2, hide fun _ h => by cases h⟩
  case round =>
    obtain ⟨k, rfl, hk, HR, HO, HGE⟩ := hrel
    clear H0 HO2
    obtain ⟨oa, oc, hvo⟩ := row_form HR.out.out
    obtain ⟨om, hom⟩ : ∃ m, m = (runK n e0 l k).out.length := ⟨_, rfl⟩
    rw [← hom] at hvo
    subst hvo
    have HOM := hide hom
    clear hom
    by_cases hlt : k < l.length
    case neg =>
      obtain rfl : k = l.length := by omega
      have HE : Hid (EgM K wr eb (runK n e0 l l.length).e (N0 + 2 * l.length)) := hide (HR.out.eng.weaken fun k hk => .inl hk)
      go_wp2
      go_ret
      exact ⟨_, rfl, HR.out.out, HE.out, HO.out⟩
    have HIV := hide (runK_inv HF.out l k hk)
    have HCNT := hide (runK_len n e0 l k)
    obtain ⟨x, lb, lo, hx, hla, hxa⟩ := (HLK.out wr HO.out).at hlt
    subst hla
    have HST := hide (runK_next n e0 hx)
    have HXA : Hid (∀ W, Only (fun k => ¬ K k) w W → EAt W lb (lo + k * 5) x) := hide fun W hW => by
      obtain ⟨x', lb', lo', hx', hla', hxa'⟩ := (HLK.out W hW).at hlt
      rw [hx] at hx'
      obtain rfl := Option.some.inj hx'
      cases hla'
      exact hxa'
    have HLT := hide hlt
    have hki : (k : Int) < (l.length : Int) := by omega
    have hNk : N0 + 2 * k ≤ 10000 := by have := HNL.out; omega
    have HNK := hide hNk
    have HDONE : Hid (∀ (vo' : Value) (W : World) (R' : RunS Eg), runK n e0 l (k + 1) = R' → RunM K W eb n gm go_ vo' R' (N0 + 2 * k + 2) → Only (fun k => ¬ K k) w W → Hid (RunM K W eb n gm go_ vo' (runK n e0 l (k + 1)) (N0 + 2 * (k + 1))) ∧ Hid (Only (fun k => ¬ K k) w W)) := hide fun vo' W R' h1 h2 h3 => ⟨hide (by rw [h1]; exact h2.mono (by omega)), hide h3⟩
    obtain ⟨R, hRR⟩ : ∃ R, R = runK n e0 l k := ⟨_, rfl⟩
    rw [← hRR] at HR HST HIV HOM HCNT
    obtain ⟨kind, p, co, xa, xb⟩ := x
    obtain ⟨c0, c1, c2, c3, c4, -, -, -, -, -⟩ := hxa
    dsimp only at c0 c1 c2 c3 c4
    have HHI := hide HLK.out
    clear hx hlt hk hRR HLK
    by_cases hp0 : p < 0
    · have HSS : Hid (runK n e0 l (k + 1) = R) := hide (by rw [HST.out]; unfold runStep; rw [if_pos (.inl hp0)])
      obtain ⟨r1, r2⟩ := HDONE.out _ wr R HSS.out (HR.out.mono (by omega)) HO.out
      go_wp2
      go_roundw
      case rel => exact ⟨k + 1, by go_num, by have := HLT.out; omega, r1, r2, HGE⟩
      case measure => have := HLT.out; simp [intOf]; omega
    by_cases hpn : (n : Int) ≤ p
    · have HSS : Hid (runK n e0 l (k + 1) = R) := hide (by rw [HST.out]; unfold runStep; rw [if_pos (.inr hpn)])
      obtain ⟨r1, r2⟩ := HDONE.out _ wr R HSS.out (HR.out.mono (by omega)) HO.out
      go_wp2
      go_roundw
      case rel => exact ⟨k + 1, by go_num, by have := HLT.out; omega, r1, r2, HGE⟩
      case measure => have := HLT.out; simp [intOf]; omega
    obtain ⟨q, rfl⟩ : ∃ q : Nat, p = (q : Int) := ⟨p.toNat, by omega⟩
    have hqn : q < n := by omega
    have HPN : Hid (¬ ((q : Int) < 0 ∨ (n : Int) ≤ (q : Int))) := hide (by omega)
    have hqi : (q : Int) < (n : Int) := by omega
    have HKW' : Hid (∀ j, (K j ∨ j = gm ∨ j = go_ ∨ (Value.slice oa om oc).ownBlock = some j) → j < wr.heap.size) := hide fun j hj => by
      obtain ⟨-, -, a3, a4, a5⟩ := HR.out.apart
      rcases hj with hj | hj | hj | hj
      · have := HKW.out j hj; have := HO.out.size; omega
      · omega
      · omega
      · exact a5 j hj
    have HOMB : Hid (om ≤ 10000000) := hide (by
      have h1 := HOM.out
      have h2 := HCNT.out
      have h3 := HLT.out
      have h4 := HNL.out
      omega)
    by_cases hk0 : kind = 0
    · subst hk0
      have HI := hide (invoke_any HR.out.eng HKW'.out (by omega) (q : Int) ⟨co, xa, xb⟩)
      unfold opV at HI
      dsimp only at HI
      obtain ⟨rr, hrr⟩ : ∃ rr, rr = (herlM.invoke R.e (q : Int) ⟨co, xa, xb⟩).2 := ⟨_, rfl⟩
      unfold Invoked at HI
      rw [← hrr] at HI
      go_wp2_with fail
      refine HI.out.mono ?_
      rintro r W1 ⟨rfl, hm1, ho1⟩
      have HO1 : Hid (Only (fun k => ¬ K k) w W1) := hide (HO.out.trans (ho1.mono fun j hj a => hj (.inl a)) fun _ _ a => a)
      have HR1 := hide (HR.out.eng' hm1 ho1)
      clear hm1 ho1 HI c0 c1 c2 c3 c4
      obtain ⟨d0, d1, d2, d3, d4, -⟩ := HXA.out W1 HO1.out
      dsimp only at d0 d1 d2 d3 d4
      by_cases h0 : rr = 0
      · have hr0 : (rr == 0) = true := by simp; exact h0
        have hInv := herlM.invoke_ok (e := R.e) (p := (q : Int)) (o := ⟨co, xa, xb⟩) (by rw [← hrr]; exact h0)
        have hlm := HIV.out.lm
        have hlo := HIV.out.lo
        obtain ⟨Mv, hMv⟩ : ∃ Mv, Mv = R.many.getD q 0 := ⟨_, rfl⟩
        have hMb : 0 ≤ Mv ∧ Mv ≤ 200000 := by
          have h1 := HIV.out.many q hqn
          have h2 := HR.out.eng.seq q (by have h : R.e.n = n := HIV.out.hn; omega)
          have h3 : herlM.seq R.e q = (R.e.ps q).seq := rfl
          omega
        have HSS : Hid (runK n e0 l (k + 1) = ⟨(herlM.invoke R.e (q : Int) ⟨co, xa, xb⟩).1, R.many.set q (Mv + 1), R.opn.set q (om : Int), R.out ++ [⟨(q : Int), Mv + 1, (k : Int), -1, 0, ⟨co, xa, xb⟩⟩]⟩) := hide (by
          rw [HST.out]
          unfold runStep
          rw [if_neg HPN.out, if_pos rfl, if_pos (by rw [← hrr]; exact h0), HOM.out, hMv]
          rfl)
        have hcm1 := (HR1.out.many).cellV (j := q) (by show q < R.many.length; omega)
        obtain ⟨m0, m1⟩ := hcm1
        have m0' : W1.cell? ⟨gm, q, none⟩ = some (.int .i64 Mv) := by rw [hMv]; exact m0
        have hw1' : IntKind.i64.wrap (Mv + 1) = Mv + 1 := wrap_lit _ (by omega) (by omega)
        obtain ⟨W2, hW2⟩ : ∃ W2, W2 = W1.setCell ⟨gm, q, none⟩ (.int .i64 (Mv + 1)) := ⟨_, rfl⟩
        have HR2 := hide (HR1.out.setMany q (Mv + 1))
        rw [← hW2] at HR2
        obtain ⟨W3, hW3⟩ : ∃ W3, W3 = W2.setCell ⟨go_, q, none⟩ (.int .i64 (om : Int)) := ⟨_, rfl⟩
        have HR3 := hide (HR2.out.setOpn q (om : Int))
        rw [← hW3] at HR3
        have hgm : ¬ K gm := fun a => by have := HKW.out gm a; have := HGM.out; omega
        have hgo : ¬ K go_ := fun a => by
          have h1 := HKW.out go_ a
          have h2 := HGO.out
          have h3 : w1.heap.size = w.heap.size + 1 := by rw [HW1.out]; simp
          omega
        have HO2 : Hid (Only (fun k => ¬ K k) w W2) := hide (by rw [hW2]; exact HO1.out.setCell q (fun _ => hgm) _)
        have HO3 : Hid (Only (fun k => ¬ K k) w W3) := hide (by rw [hW3]; exact HO2.out.setCell q (fun _ => hgo) _)
        obtain ⟨g2, y2⟩ := (HR2.out.opn).cellV (j := q) (by show q < R.opn.length; omega)
        have hcm3 : W3.cell? ⟨gm, q, none⟩ = some (.int .i64 (Mv + 1)) := by
          have := ((HR3.out.many).cellV (j := q) (by show q < (R.many.set q (Mv + 1)).length; simp; omega)).1
          have e1 : (R.many.set q (Mv + 1)).getD q 0 = Mv + 1 := getD_set_self (by omega)
          rw [← e1]
          exact this
        have HR3' := HR3
        have HON3 : Hid (W3.drew.ownsRow 0 51 8 (.slice oa om oc) om (calCells R.out)) := hide (by
          have h1 : W3.ownsRow 0 51 8 (.slice oa om oc) R.out.length (calCells R.out) := HR3.out.out
          rw [← HOM.out] at h1
          exact ownsRow_keep h1 fun _ _ => rfl)
        have HFN : Hid (∀ v' W', W'.ownsRow 0 51 8 v' (om + 1) (calCells R.out ++ (#[.int .i64 (q : Int), .int .i64 (Mv + 1), .int .i64 (k : Int), .int .i64 (-1), .int .i64 0, .int .i64 co, .int .i64 xa, .int .i64 xb] : Array Value).toList) → (W3.drew.alloc (.cells #[.int .i64 (q : Int), .int .i64 (Mv + 1), .int .i64 (k : Int), .int .i64 (-1), .int .i64 0, .int .i64 co, .int .i64 xa, .int .i64 xb] 51)).grownBy W' (Value.slice oa om oc).ownBlock → (v'.ownBlock = (Value.slice oa om oc).ownBlock ∨ v'.ownBlock = some (W3.drew.heap.size + 1)) →
            ((Hid (RunM K W' eb n gm go_ v' (runK n e0 l (k + 1)) (N0 + 2 * (k + 1))) ∧ Hid (Only (fun k => ¬ K k) w W')) ∧ Hid (∀ j, v'.ownBlock = some j → w.heap.size ≤ j)) ∧ W'.cell? ⟨lb, lo + k * 5, none⟩ = some (.int .i64 0)) := hide fun v' W' a1 a2 a3 => by
          have hD : RunM K W3.drew eb n gm go_ (.slice oa om oc) _ _ := ⟨HR3.out.eng.below ((Below.refl _ _).drew), ownsRow_keep HR3.out.many fun _ _ => rfl, ownsRow_keep HR3.out.opn fun _ _ => rfl, ownsRow_keep HR3.out.out fun _ _ => rfl, HR3.out.ne⟩
          obtain ⟨b1, b2⟩ := hD.addOut (c := ⟨(q : Int), Mv + 1, (k : Int), -1, 0, ⟨co, xa, xb⟩⟩) (vo' := v') (W := W') (by show W'.ownsRow 0 _ 8 v' (R.out.length + 1) _; rw [← HOM.out]; exact a1) a2 a3
          have hKo : ∀ j, (Value.slice oa om oc).ownBlock = some j → ¬ K j := fun j hj a => by have := HGE.out j hj; have := HKW.out j a; omega
          have hO' : Only (fun k => ¬ K k) w W' := (HO3.out.drewN 1).trans (b2.mono hKo) fun _ _ a => a
          refine ⟨⟨HDONE.out v' W' _ HSS.out b1 hO', hide fun j hj => ?_⟩, (HXA.out W' hO').c0⟩
          rcases a3 with a3 | a3
          · exact HGE.out j (by rw [← a3]; exact hj)
          · rw [a3] at hj
            have h1 := Option.some.inj hj
            have h2 : w.heap.size ≤ W3.heap.size := HO3.out.size
            have h3 : W3.drew.heap.size = W3.heap.size := rfl
            omega
        have HOC : Hid (∀ u ∈ (#[.int .i64 (q : Int), .int .i64 (Mv + 1), .int .i64 (k : Int), .int .i64 (-1), .int .i64 0, .int .i64 co, .int .i64 xa, .int .i64 xb] : Array Value).toList, u.oneCell' = true) := hide (by
          intro u hu
          simp at hu
          rcases hu with rfl | rfl | rfl | rfl | rfl | rfl | rfl | rfl <;> rfl)
        have HOML : Hid (om ≤ 10000000) := HOMB
        clear hInv hMv h0 hMb hlm hlo m0
        have hqm : (q : Int) < (n : Int) := hqi
        go_upto_region 11 with fail
        rw [← hW2]
        clear hW2 m0' m1
        go_upto_region 12 with fail
        rw [← hW3]
        clear hW3 g2 y2
        obtain ⟨t0, t1, t2, t3, t4, -⟩ := HXA.out W3 HO3.out
        dsimp only at t0 t1 t2 t3 t4
        clear d0 d1 d2 d3 d4
        go_region_law (refine step_append_one 46 51 8 64 _ Try.underlying46 info_cal rfl (by decide) (by decide) (by rfl) _ _ (by rfl) (.slice oa om oc) om (calCells R.out) (by rfl) #[.int .i64 (q : Int), .int .i64 (Mv + 1), .int .i64 (k : Int), .int .i64 (-1), .int .i64 0, .int .i64 co, .int .i64 xa, .int .i64 xb] W3.drew (by rfl) HON3.out (by rfl) HOC.out (by rfl) HOML.out ?_; intro v9 W9 ho9 hg9 hv9; obtain ⟨hA, u0⟩ := HFN.out v9 W9 ho9 hg9 hv9; have HA9 := hide hA; clear hA ho9 hg9 hv9)
        all_goals
          go_wp2
          go_roundw
          case rel => exact ⟨k + 1, by go_num, by have := HLT.out; omega, HA9.out.1.1, HA9.out.1.2, HA9.out.2⟩
          case measure => have := HLT.out; simp [intOf]; omega
      · have hr0 : (rr == 0) = false := by simp; exact h0
        have HSS : Hid (runK n e0 l (k + 1) = { R with e := (herlM.invoke R.e (q : Int) ⟨co, xa, xb⟩).1 }) := hide (by
          rw [HST.out]
          unfold runStep
          rw [if_neg HPN.out, if_pos rfl, if_neg (by rw [← hrr]; exact h0), herlM.invoke_not (by rw [← hrr]; exact h0)])
        obtain ⟨r1, r2⟩ := HDONE.out _ W1 _ HSS.out HR1.out HO1.out
        clear HSS
        go_wp2
        go_roundw
        case rel => exact ⟨k + 1, by go_num, by have := HLT.out; omega, r1, r2, HGE⟩
        case measure => have := HLT.out; simp [intOf]; omega
    by_cases hk1 : kind = 1
    · subst hk1
      have HS := hide (step_anyE HR.out.eng HKW'.out (by omega) (q : Int))
      unfold Stept at HS
      obtain ⟨D, hD⟩ : ∃ D, D = (herlM.step R.e (q : Int)).2.2 := ⟨_, rfl⟩
      obtain ⟨Rv, hRv⟩ : ∃ Rv, Rv = (herlM.step R.e (q : Int)).2.1 := ⟨_, rfl⟩
      rw [← hD, ← hRv] at HS
      have hn0 : ((1 : Int) == 0) = false := rfl
      go_wp2_with fail
      refine HS.out.mono ?_
      rintro r W1 ⟨rfl, hm1, ho1⟩
      have HO1 : Hid (Only (fun k => ¬ K k) w W1) := hide (HO.out.trans (ho1.mono fun j hj a => hj (.inl a)) fun _ _ a => a)
      have HR1 := hide (HR.out.eng' hm1 ho1)
      clear hm1 ho1 HS c0 c1 c2 c3 c4
      cases D with
      | false =>
        have HSS : Hid (runK n e0 l (k + 1) = { R with e := (herlM.step R.e (q : Int)).1 }) := hide (by
          rw [HST.out]
          unfold runStep
          rw [if_neg HPN.out, if_neg (show ¬ (1 : Int) = 0 by decide), if_pos rfl]
          dsimp only
          rw [← hD]
          rfl)
        obtain ⟨r1, r2⟩ := HDONE.out _ W1 _ HSS.out HR1.out HO1.out
        clear HSS hD hRv
        go_wp2
        go_roundw
        case rel => exact ⟨k + 1, by go_num, by have := HLT.out; omega, r1, r2, HGE⟩
        case measure => have := HLT.out; simp [intOf]; omega
      | true =>
        have hbusy : herlM.isBusy R.e (q : Int) = true := by
          cases hb : herlM.isBusy R.e (q : Int) with
          | true => rfl
          | false =>
            rw [herlM.step_idle hb] at hD
            cases hD
        have hqe : q < herlM.n R.e := by rw [HIV.out.hn]; exact hqn
        rw [herlM.isBusy_nat hqe] at hbusy
        obtain ⟨k0, c, i1, i2, -, -, -, -⟩ := HIV.out.cur q hqn hbusy
        have hk0 : k0 < R.out.length := (List.getElem?_eq_some_iff.1 i2).1
        have hko : k0 < om := by rw [HOM.out]; exact hk0
        have hlo := HIV.out.lo
        have HSS : Hid (runK n e0 l (k + 1) = { R with e := (herlM.step R.e (q : Int)).1, out := (R.out.set k0 { c with to_ := (k : Int) }).set k0 { c with to_ := (k : Int), resp := Rv } }) := hide (by
          rw [HST.out]
          unfold runStep
          rw [if_neg HPN.out, if_neg (show ¬ (1 : Int) = 0 by decide), if_pos rfl]
          dsimp only
          rw [if_pos hD.symm, ← hRv]
          have e1 : (R.opn.getD ((q : Int)).toNat 0).toNat = k0 := by
            have : ((q : Int)).toNat = q := by omega
            rw [this, i1]
            omega
          have e2 : R.out.getD k0 noCal = c := by simp [List.getD, i2]
          rw [e1, e2, List.set_set])
        have hOut1 : W1.ownsRow 0 51 8 (.slice oa om oc) om (calCells R.out) := by
          have h1 : W1.ownsRow 0 51 8 (.slice oa om oc) R.out.length (calCells R.out) := HR1.out.out
          rw [← HOM.out] at h1
          exact h1
        obtain ⟨og, oc', hov, hoc⟩ := row_at hOut1 (by omega)
        cases hov
        obtain ⟨ocs, hob⟩ := row_bk hOut1 (g := og) rfl
        have hf : ∀ j, W1.frozen? ⟨og, j, none⟩ = false := fun j => frozen_of_row W1 og j _ _ hob
        have hf2 : ∀ j u, (W1.setCell ⟨og, k0 * 8 + 3, none⟩ u).frozen? ⟨og, j, none⟩ = false := fun j u => frozen_of_row _ og j _ _ (hob.set (k0 * 8 + 3) u)
        have u3 : W1.cell? ⟨og, k0 * 8 + 3, none⟩ = some (.int .i64 (R.out.getD k0 noCal).to_) := hoc _ _ (calCells_get R.out k0 3 hk0 (by omega))
        have y3 := hf (k0 * 8 + 3)
        have hR2 := HR1.out.setOut (k0 * 8 + 3) (.int .i64 (k : Int)) (R.out.set k0 { c with to_ := (k : Int) }) (by simp) (calCells_set3 R.out k0 c (k : Int) i2)
        obtain ⟨W2, hW2⟩ : ∃ W2, W2 = W1.setCell ⟨og, k0 * 8 + 3, none⟩ (.int .i64 (k : Int)) := ⟨_, rfl⟩
        have y4 := hf2 (k0 * 8 + 4) (.int .i64 (k : Int))
        rw [← hW2] at hR2 y4
        have hOut2 : W2.ownsRow 0 51 8 (.slice (some ⟨og, 0, none⟩) om oc) om (calCells (R.out.set k0 { c with to_ := (k : Int) })) := by
          have h1 : W2.ownsRow 0 51 8 (.slice (some ⟨og, 0, none⟩) om oc) (R.out.set k0 { c with to_ := (k : Int) }).length (calCells (R.out.set k0 { c with to_ := (k : Int) })) := hR2.out
          have e1 : (R.out.set k0 { c with to_ := (k : Int) }).length = om := by rw [HOM.out]; simp
          rw [e1] at h1
          exact h1
        obtain ⟨og2, oc2, hov2, hoc2⟩ := row_at hOut2 (by omega)
        cases hov2
        have hk2 : k0 < (R.out.set k0 { c with to_ := (k : Int) }).length := by simpa using hk0
        have u4 : W2.cell? ⟨og, k0 * 8 + 4, none⟩ = some (.int .i64 ((R.out.set k0 { c with to_ := (k : Int) }).getD k0 noCal).resp) := hoc2 _ _ (calCells_get _ k0 4 hk2 (by omega))
        have i3 : (R.out.set k0 { c with to_ := (k : Int) })[k0]? = some { c with to_ := (k : Int) } := by simp [hk0]
        have hR3 := hR2.setOut (k0 * 8 + 4) (.int .i64 Rv) ((R.out.set k0 { c with to_ := (k : Int) }).set k0 { c with to_ := (k : Int), resp := Rv }) (by simp) (calCells_set4 _ k0 _ Rv i3)
        have hog : ¬ K og := fun a => by have := HGE.out og rfl; have := HKW.out og a; omega
        have hO3 : Only (fun k => ¬ K k) w (W2.setCell ⟨og, k0 * 8 + 4, none⟩ (.int .i64 Rv)) := by
          rw [hW2]
          exact (HO1.out.setCell (k0 * 8 + 3) (fun _ => hog) _).setCell (k0 * 8 + 4) (fun _ => hog) _
        obtain ⟨r1, r2⟩ := HDONE.out _ _ _ HSS.out hR3 hO3
        obtain ⟨p0, -⟩ := (HR1.out.opn).cellV (j := q) (by show q < R.opn.length; omega)
        have p1 : W1.cell? ⟨go_, q, none⟩ = some (.int .i64 (k0 : Int)) := by
          have h1 : W1.cell? ⟨go_, q, none⟩ = some (.int .i64 (R.opn.getD q 0)) := p0
          rw [i1] at h1
          exact h1
        obtain ⟨p2, -⟩ := (hR2.opn).cellV (j := q) (by show q < R.opn.length; omega)
        have p3 : W2.cell? ⟨go_, q, none⟩ = some (.int .i64 (k0 : Int)) := by
          have h1 : W2.cell? ⟨go_, q, none⟩ = some (.int .i64 (R.opn.getD q 0)) := p2
          rw [i1] at h1
          exact h1
        have hkoi : (k0 : Int) < (om : Int) := by omega
        have HY4 := hide (And.intro u4 y4)
        have HP3 := hide p3
        clear HSS hD hRv hbusy hqe i1 i2 hk0 hlo hOut1 hoc hob hf hf2 hR2 hOut2 hoc2 hk2 i3 hR3 hog hO3 p0 p2 u4 y4 p3
        go_upto_region 17 with fail
        rw [← hW2]
        obtain ⟨u4, y4⟩ := HY4.out
        have p3 := HP3.out
        clear hW2 u3 y3 p1
        go_wp2
        go_roundw
        case rel => exact ⟨k + 1, by go_num, by have := HLT.out; omega, r1, r2, HGE⟩
        case measure => have := HLT.out; simp [intOf]; omega
    · have hn0 : (kind == 0) = false := by simp; exact hk0
      have hn1 : (kind == 1) = false := by simp; exact hk1
      have HSS : Hid (runK n e0 l (k + 1) = R) := hide (by
        rw [HST.out]
        unfold runStep
        rw [if_neg HPN.out, if_neg hk0, if_neg hk1])
      obtain ⟨r1, r2⟩ := HDONE.out _ wr R HSS.out (HR.out.mono (by omega)) HO.out
      go_wp2
      go_roundw
      case rel => exact ⟨k + 1, by go_num, by have := HLT.out; omega, r1, r2, HGE⟩
      case measure => have := HLT.out; simp [intOf]; omega

end Go.Proofs.Ytedfacbngefhnaa
