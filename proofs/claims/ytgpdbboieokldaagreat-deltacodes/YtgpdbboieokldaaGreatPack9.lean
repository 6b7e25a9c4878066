import Derived.Test.YtgpdbboieokldaaGreatSnapShelf
import Derived.Shelf.Spec.SlicesInsertGrow
import Derived.Deep.DeepAppendWide
/- Contract over entries of slices.DeleteFunc. -/
namespace Go.Proofs.YtgpdbboieokldaaGreat
open Go.RowKit

theorem filter_next (p : Ent → Bool) (l : List Ent) (j : Nat) (hj : j < l.length) : (l.take (j + 1)).filter (fun e => !p e) = (l.take j).filter (fun e => !p e) ++ if p (l.getD j zeroE) = true then [] else [l.getD j zeroE] := by
  have e1 : l.take (j + 1) = l.take j ++ [l.getD j zeroE] := by
    rw [List.take_add_one, List.getElem?_eq_getElem hj]
    simp [List.getD, hj]
  rw [e1, List.filter_append]
  congr 1
  generalize l.getD j zeroE = x
  cases h : p x <;> simp [h]

theorem filter_none (p : Ent → Bool) (l : List Ent) (i : Nat) (hi : i ≤ l.length) (h : ∀ j, j < i → p (l.getD j zeroE) = false) : (l.take i).filter (fun e => !p e) = l.take i := by
  rw [List.filter_eq_self]
  intro e he
  obtain ⟨j, hj, rfl⟩ := List.getElem_of_mem he
  rw [List.length_take] at hj
  have := h j (by omega)
  rw [List.getElem_take]
  simp only [List.getD, List.getElem?_eq_getElem (show j < l.length by omega), Option.getD_some] at this
  simp [this]

/-- Where the deleting stands: L is the row; i of it are kept, j are seen. -/
def DelAt (p : Ent → Bool) (l L : List Ent) (i j : Nat) : Prop := L.length = l.length ∧ L.take i = (l.take j).filter (fun e => !p e) ∧ L.drop j = l.drop j ∧ i < j

theorem DelAt.start {p : Ent → Bool} {l : List Ent} {i : Nat} (hi : i < l.length) (h : ∀ j, j < i → p (l.getD j zeroE) = false) (hp : p (l.getD i zeroE) = true) : DelAt p l l i (i + 1) := by
  refine ⟨rfl, ?_, rfl, Nat.lt_succ_self _⟩
  rw [filter_next p l i hi, if_pos hp, List.append_nil, filter_none p l i (by omega) h]

theorem DelAt.at {p : Ent → Bool} {l L : List Ent} {i j : Nat} (h : DelAt p l L i j) : L.getD j zeroE = l.getD j zeroE := by
  obtain ⟨h1, h2, h3, h4⟩ := h
  have e1 : (L.drop j).getD 0 zeroE = L.getD j zeroE := by simp [List.getD]
  have e2 : (l.drop j).getD 0 zeroE = l.getD j zeroE := by simp [List.getD]
  rw [← e1, ← e2, h3]

theorem drop_next {L l : List Ent} {j : Nat} (h : L.drop j = l.drop j) : L.drop (j + 1) = l.drop (j + 1) := by
  rw [← List.drop_drop, ← List.drop_drop, h]

theorem DelAt.skip {p : Ent → Bool} {l L : List Ent} {i j : Nat} (h : DelAt p l L i j) (hj : j < l.length) (hp : p (l.getD j zeroE) = true) : DelAt p l L i (j + 1) := by
  obtain ⟨h1, h2, h3, h4⟩ := h
  refine ⟨h1, ?_, drop_next h3, by omega⟩
  rw [filter_next p l j hj, if_pos hp, List.append_nil, h2]

theorem DelAt.keep {p : Ent → Bool} {l L : List Ent} {i j : Nat} (h : DelAt p l L i j) (hj : j < l.length) (hp : p (l.getD j zeroE) = false) : DelAt p l (L.set i (l.getD j zeroE)) (i + 1) (j + 1) := by
  obtain ⟨h1, h2, h3, h4⟩ := h
  refine ⟨by rw [List.length_set, h1], ?_, ?_, by omega⟩
  · rw [filter_next p l j hj, if_neg (by rw [hp]; simp), ← h2, List.take_add_one, List.take_set_of_le (Nat.le_refl _)]
    congr 1
    rw [List.getElem?_set_self (by omega)]
    rfl
  · rw [List.drop_set_of_lt (by omega)]
    exact drop_next h3

/-- An entry's three cells, written one by one. -/
theorem OwnE.put3 {w : World} {B g n cap : Nat} {l : List Ent} (h : OwnE w B (.slice (some ⟨g, 0, none⟩) n cap) l) (i : Nat) (hi : i < l.length) (p s r : Int) (o0 o1 o2 : Nat) (h0 : o0 = i * 3) (h1 : o1 = i * 3 + 1) (h2 : o2 = i * 3 + 2) :
    OwnE (((w.setCell ⟨g, o0, none⟩ (.int .i64 p)).setCell ⟨g, o1, none⟩ (.int .i64 s)).setCell ⟨g, o2, none⟩ (.int .i64 r)) B (.slice (some ⟨g, 0, none⟩) n cap) (l.set i ⟨p, s, r⟩) := by
  subst h0 h1 h2
  exact h.put i hi ⟨p, s, r⟩

theorem OwnE.ent {w : World} {B g n cap : Nat} {l : List Ent} (h : OwnE w B (.slice (some ⟨g, 0, none⟩) n cap) l) (i : Nat) (hi : i < l.length) : EntAt w g (i * 3) (l.getD i zeroE) ∧ (∀ k, w.frozen? ⟨g, k, none⟩ = false) ∧ B ≤ g ∧ l.length ≤ cap ∧ cap ≤ maxLen ∧ n = l.length := by
  rcases h.row with ⟨h1, -⟩ | ⟨g', cap', cur, h1, hB, hlt, hg, hc, hm, hs, hcell⟩
  · cases h1
  · injection h1 with h1 h2 h3
    injection h1 with h1
    injection h1 with h1
    subst h1 h3
    have hx : ∀ k, k < 3 → w.cell? ⟨g, i * 3 + k, none⟩ = (entC (l.getD i zeroE))[k]? := fun k hk => by
      rw [cell_of_row w g (i * 3 + k) _ _ _ hg, hcell _ (by omega), entCells_get l i k hi hk]
    exact ⟨⟨hx 0 (by decide), hx 1 (by decide), hx 2 (by decide)⟩, fun k => frozen_of_row w g k _ _ hg, hB, hc, hm, h2⟩

theorem belowStore3 {C : Nat} {w0 w : World} (h : Below C w0 w) (R : Nat) (hR : C ≤ R) (o0 o1 o2 : Nat) (x0 x1 x2 : Value) : Below C w0 (((w.setCell ⟨R, o0, none⟩ x0).setCell ⟨R, o1, none⟩ x1).setCell ⟨R, o2, none⟩ x2) :=
  ((h.setCell hR _).setCell hR _).setCell hR _

theorem zeroValue_ent (w : World) : (zeroValue 48).run Tryz.prog w = .ok (.agg #[.int .i64 0, .int .i64 0, .int .i64 0]) w := Tryz.zeroValue48 w

set_option maxRecDepth 100000 in
set_option maxHeartbeats 4000000 in
theorem deleteFuncE_any (g R : Nat) (p : Ent → Bool) (v : Value) (l : List Ent) (B : Nat) (w : World) (ho : OwnE w B v l) (hI : ∀ e ∈ l, EntI e) (hBw : B ≤ w.heap.size) (hlim : l.length ≤ 1000000)
    (eg : ∀ args W, (callFunc g args).run Tryz.prog W = .ok (.enter g args) W)
    (hp : ∀ W e, Below B w W → Calls Tryz.prog g #[entV e, .pointer (some ⟨R, 0, none⟩)] W fun x w' => x = .returned (.bool (p e)) ∧ Below W.heap.size W w') :
    Calls Tryz.prog 99 #[v, .func (.func g) #[] #[.pointer (some ⟨R, 0, none⟩)]] w fun x w' => ∃ v', x = .returned v' ∧ OwnE w' B v' (l.filter (fun e => !p e)) ∧ Below B w w' := by
  have HO := hide ho
  have HP := hide hp
  have HIX := hide (indexFuncE_any g R p v l w (ho.rd hI) eg (fun W e h => hp W e (h.mono hBw)))
  obtain ⟨va, vc, hv⟩ := ho.shape
  subst hv
  clear ho hp
  go_enter Tryz.func99, Tryz.ntmps99
  go_wp2_with fail
  refine HIX.out.mono ?_
  rintro x W0 ⟨k, rfl, hf, hb0⟩
  have HB0 := hide (hb0.mono hBw)
  have HO0 := hide (HO.out.below hb0 (Nat.le_refl _))
  clear HIX hb0 HO
  rcases hf with ⟨rfl, hf⟩ | ⟨i0, rfl, hi0, hf, hpi⟩
  · have HE : Hid (l.filter (fun e => !p e) = l) := hide (by
      have := filter_none p l l.length (Nat.le_refl _) hf
      rwa [List.take_length] at this)
    clear hf
    go_wp2
    go_ret
    exact ⟨_, rfl, by rw [HE.out]; exact HO0.out, HB0.out⟩
  have HD0 := hide (DelAt.start hi0 hf hpi)
  clear hf hpi
  rcases HO0.out.row with ⟨-, h2⟩ | ⟨gr, cap, cur, h1, hBg, -, -, hlc, hcm, -, -⟩
  · rw [h2] at hi0; simp at hi0
  injection h1 with h1 _ h3
  subst h1 h3
  have hml : (l.length : Int) ≤ 1000000 := by omega
  clear cur hcm
  have ei : ((i0 : Int) == -1) = false := beq_eq_false_iff_ne.2 (by omega)
  go_wp2
  go_loopw [5, 6] (fun v5 v6 wr => ∃ (i j : Nat) (L : List Ent), v5 = .int .i64 (i : Int) ∧ v6 = .int .i64 (j : Int) ∧ i < j ∧ j ≤ l.length ∧ Hid (OwnE wr B (.slice (some ⟨gr, 0, none⟩) l.length vc) L) ∧ Hid (DelAt p l L i j) ∧ Hid (Below B w wr)) (fun _ v6 _ => l.length - (intOf v6).toNat)
  case atStart => exact ⟨i0, i0 + 1, l, rfl, by go_num, by omega, by omega, HO0, HD0, HB0⟩
  case round =>
    clear HO0 HD0 HB0 ei
    obtain ⟨i, j, L, rfl, rfl, hij, hjl, hO, hD, hB⟩ := hrel
    by_cases hlt : j < l.length
    case neg =>
      obtain rfl : j = l.length := by omega
      have hL : L.length = l.length := hD.out.1
      have HT : Hid (L.take i = l.filter (fun e => !p e)) := hide (by rw [hD.out.2.1, List.take_length])
      have hE := (hO.out.ent i (by omega)).2.1
      have HK : Hid (∀ ty, (Builtin.clear_ #[23] ty #[.slice (some ⟨gr, i * 3, none⟩) (l.length - i) (vc - i)]).run Tryz.prog wr = .ok (.tuple #[]) (wr.setCells gr (i * 3) (zeros3 (l.length - i)))) := hide (fun ty =>
        run_clear_three wr _ _ _ Tryz.underlying23 zeroValue_ent gr (i * 3) (l.length - i) (vc - i) (by omega) (fun k hk => by
          obtain ⟨q, r, hr, rfl⟩ : ∃ q r, r < 3 ∧ k = q * 3 + r := ⟨k / 3, k % 3, Nat.mod_lt _ (by decide), by omega⟩
          have := (hO.out.ent (i + q) (by omega)).1
          rw [show i * 3 + (q * 3 + r) = (i + q) * 3 + r by omega]
          match r, hr with
          | 0, _ => rw [show (i + q) * 3 + 0 = (i + q) * 3 from rfl, this.1]; rfl
          | 1, _ => rw [this.2.1]; rfl
          | 2, _ => rw [this.2.2]; rfl) (fun k _ => hE _))
      have HOC := hide ((hO.out.cut i (by omega)).cells (i * 3) (by rw [List.length_take]; omega) (zeros3 (l.length - i)))
      rw [HT.out] at HOC
      have HBC := hide (belowCells hBg (zeros3 (l.length - i)) (i * 3) wr hB.out)
      have hvi : ¬ (vc = i) := by omega
      have hb1 : (i : Int) ≤ (l.length : Int) := by omega
      have hb2 : (i : Int) ≤ (vc : Int) := by omega
      have hb3 : i ≤ l.length := by omega
      have hb4 : i ≤ vc := by omega
      clear hE
      have hK := HK.out
      go_wp2
      go_ret
      exact ⟨_, rfl, HOC.out, HBC.out⟩
    have hji : (j : Int) < (l.length : Int) := by omega
    have hLl : L.length = l.length := hD.out.1
    obtain ⟨⟨c0, c1, c2⟩, -, -⟩ := hO.out.ent j (by omega)
    rw [hD.out.at] at c0 c1 c2
    have HSK := hide (hD.out.skip hlt)
    have HKP := hide (hD.out.keep hlt)
    obtain ⟨e, he⟩ : ∃ e, e = l.getD j zeroE := ⟨_, rfl⟩
    rw [← he] at c0 c1 c2 HSK HKP
    obtain ⟨pe, hpe⟩ : ∃ pe, pe = p e := ⟨_, rfl⟩
    have HC := hide (fun W h => HP.out W e h)
    rw [← hpe] at HC HSK HKP
    obtain ⟨ep, es, er⟩ := e
    unfold entV at HC
    simp only at HC c0 c1 c2 HKP
    clear he hpe hD
    have HB2 : Hid (∀ X, Below B w (wr.alloc X)) := hide (fun X => hB.out.alloc (Nat.le_trans hBw hB.out.size) X)
    have HX : Hid (Be (wr.alloc (.cells #[.int .i64 ep, .int .i64 es, .int .i64 er] 48)) wr.heap.size #[.int .i64 ep, .int .i64 es, .int .i64 er]) := hide (heap_alloc_new wr _)
    have HOW : Hid (∀ X, OwnE (wr.alloc X) B (.slice (some ⟨gr, 0, none⟩) l.length vc) L) := hide (fun X => hO.out.below ((Below.refl _ _).alloc (Nat.le_refl _) X) (Nat.le_refl _))
    go_wp2_with fail
    refine (HC.out _ (HB2.out _)).mono ?_
    rintro x W1 ⟨rfl, hb1⟩
    have HB3 := hide ((HB2.out (.cells #[.int .i64 ep, .int .i64 es, .int .i64 er] 48)).trans (hb1.mono (by have := hB.out.size; simp; omega)))
    have HX3 := hide (HX.out.below hb1 (Nat.le_refl _))
    have HO3 := hide ((HOW.out (.cells #[.int .i64 ep, .int .i64 es, .int .i64 er] 48)).below hb1 (Nat.le_refl _))
    clear hb1 HC HB2 HX HOW c0 c1 c2 hO hB
    cases pe with
    | true =>
      go_wp2
      go_roundw
      case rel => exact ⟨i, j + 1, L, rfl, by go_num, by omega, by omega, HO3, hide (HSK.out (by simp)), HB3⟩
      case measure => simp [intOf]; omega
    | false =>
      obtain ⟨⟨d0, d1, d2⟩, hfz, hBg2, -⟩ := HO3.out.ent i (by omega)
      obtain ⟨b0, f0⟩ := HX3.out.cell 0
      obtain ⟨b1, f1⟩ := HX3.out.cell 1
      obtain ⟨b2, f2⟩ := HX3.out.cell 2
      have z0 := hfz (i * 3)
      have z1 := hfz (i * 3 + 1)
      have z2 := hfz (i * 3 + 2)
      have hii : (i : Int) < (l.length : Int) := by omega
      have hil : i < l.length := by omega
      clear hfz
      go_wp2
      go_roundw
      case rel => exact ⟨i + 1, j + 1, L.set i ⟨ep, es, er⟩, by go_num, by go_num, by omega, by omega, hide (HO3.out.put3 i (by omega) ep es er _ _ _ (by omega) (by omega) (by omega)), hide (HKP.out (by simp)), hide (belowStore3 HB3.out gr hBg _ _ _ _ _ _)⟩
      case measure => simp [intOf]; omega

end Go.Proofs.YtgpdbboieokldaaGreat

/- Contract over entries of slices.Insert. -/
namespace Go.Proofs.YtgpdbboieokldaaGreat
open Go.RowKit

theorem RdE.one (w : World) (e : Ent) (he : EntI e) : RdE (w.alloc (.cells (entC e) 48)) (.slice (some ⟨w.heap.size, 0, none⟩) 1 1) [e] := by
  have h := OwnE.ofRow (w := w.alloc (.cells (entC e) 48)) (B := w.heap.size) (g := w.heap.size) (cap := 1) (l := [e]) (n := 1) rfl (Nat.le_refl _) (heap_alloc_new w _) (Nat.le_refl _) (by unfold maxLen; decide) rfl (fun j hj => by
    rw [List.length_singleton] at hj
    match j, hj with
    | 0, _ => rfl
    | 1, _ => rfl
    | 2, _ => rfl)
  exact h.rd (fun x hx => by rw [List.mem_singleton.1 hx]; exact he)

theorem ins_cells3 (l : List Ent) (i : Nat) (hi : i ≤ l.length) (e : Ent) (f : Nat → Option Value) (h1 : ∀ j, j < i * 3 → f j = (entCells l)[j]?) (h2 : ∀ j, j < 3 → f (i * 3 + j) = (entCells [e])[j]?)
    (h3 : ∀ j, j < (l.length - i) * 3 → f ((i + 1) * 3 + j) = (entCells (l.drop i))[j]?) (j : Nat) (hj : j < (l.length + 1) * 3) : f j = (entCells (l.take i ++ (e :: l.drop i)))[j]? := by
  have e1 : l.take i ++ (e :: l.drop i) = l.take i ++ ([e] ++ l.drop i) := rfl
  have l1 : (entCells (l.take i)).length = i * 3 := by rw [entCells_length, List.length_take]; congr 1; omega
  have l2 : (entCells [e]).length = 3 := entCells_length [e]
  rw [e1, entCells_app, entCells_app]
  by_cases g1 : j < i * 3
  · rw [List.getElem?_append_left (by omega), h1 j g1, entCells_take, List.getElem?_take_of_lt g1]
  · rw [List.getElem?_append_right (by omega), l1]
    by_cases g2 : j < i * 3 + 3
    · rw [List.getElem?_append_left (by omega), ← h2 (j - i * 3) (by omega)]
      congr 1
      omega
    · rw [List.getElem?_append_right (by omega), l2, ← h3 (j - i * 3 - 3) (by omega)]
      congr 1
      omega

theorem ins_length (l : List Ent) (i : Nat) (hi : i ≤ l.length) (e : Ent) : (l.take i ++ (e :: l.drop i)).length = l.length + 1 := by simp; omega

/-- What slices.Insert answers. -/
def InsE (w : World) (B : Nat) (L : List Ent) (x : Ending) (w' : World) : Prop := ∃ v', x = .returned v' ∧ OwnE w' B v' L ∧ Below B w w'

set_option maxRecDepth 100000 in
set_option maxHeartbeats 2000000 in
theorem insertE_end (v : Value) (l : List Ent) (B : Nat) (w : World) (ho : OwnE w B v l) (hB : B ≤ w.heap.size) (hlim : l.length ≤ 100000) (e : Ent) (he : EntI e) (I : Int) (hI : I = (l.length : Nat)) (N : Nat) (hN : N = w.heap.size) :
    Calls Tryz.prog 100 #[v, .int .i64 I, .slice (some ⟨N, 0, none⟩) 1 1] (w.alloc (.cells (entC e) 48)) fun x w' => InsE w B (l.take l.length ++ (e :: l.drop l.length)) x w' := by
  subst hI hN
  have HE : Hid (l.take l.length ++ (e :: l.drop l.length) = l ++ [e]) := hide (by rw [List.take_length, List.drop_length])
  rw [HE.out]
  have HR := hide (RdE.one w e he)
  have HB0 : Hid (∀ X, Below B w (w.alloc X)) := fun X => (Below.refl _ _).alloc hB X
  have HO := hide (ho.below ((Below.refl w.heap.size w).alloc (Nat.le_refl _) (.cells (entC e) 48)) (Nat.le_refl _))
  have hsz : B ≤ (w.alloc (.cells (entC e) 48)).heap.size := by simp; omega
  rcases ho.row with ⟨rfl, rfl⟩ | ⟨g, cap, cur, rfl, hBg, hlt, hg, hn, hm, hs, hc⟩
  · clear ho HE
    go_enter Tryz.func100, Tryz.ntmps100
    go_wp2_with (at_builtin; refine wpList_append_ents _ rfl _ _ rfl B _ [] rfl HO.out _ [e] rfl HR.out (by simp) hsz ?_)
    intro v1 W1 ho1 hb1
    have HO1 := hide ho1
    have HB1 := hide ((HB0.out _).trans hb1)
    clear ho1 hb1
    go_wp2
    go_ret
    exact ⟨_, rfl, HO1.out, HB1.out⟩
  · have hmi : (cap : Int) ≤ 9223372036854775807 := by unfold maxLen at hm; omega
    have hni : (l.length : Int) ≤ (cap : Int) := by omega
    clear ho HE hc hg hs hm
    by_cases hcl : cap = l.length
    all_goals
      go_enter Tryz.func100, Tryz.ntmps100
      go_wp2_with (at_builtin; refine wpList_append_ents _ rfl _ _ rfl B _ l rfl HO.out _ [e] rfl HR.out (by simp; omega) hsz ?_)
      intro v1 W1 ho1 hb1
      have HO1 := hide ho1
      have HB1 := hide ((HB0.out _).trans hb1)
      clear ho1 hb1
      go_wp2
      go_ret
      exact ⟨_, rfl, HO1.out, HB1.out⟩

theorem ov_ent (w : World) (g N kA kB : Nat) (hne : N ≠ g) (la ca lb cb o : Nat) (hsa : w.shape? N = some (48, kA)) (hsb : w.shape? g = some (48, kB)) (hkB : kB ≠ 0) (hfa : ∀ k, w.frozen? ⟨N, k, none⟩ = false) :
    (callFunc 108 #[.slice (some ⟨N, 0, none⟩) la ca, .slice (some ⟨g, o, none⟩) lb cb]).run Tryz.prog w = .ok (.value (.bool false)) w := by
  rw [run_callFunc_extern Tryz.func108 (by kernel_rfl) (by kernel_rfl) (by kernel_rfl) (e := Extern.SlicesOverlaps.overlaps #[23, 23] #[4]) (by kernel_rfl),
    Lib.run_overlaps_apart w 23 4 48 Tryz.underlying23 3 Tryz.sizeOf48 ⟨N, 0, none⟩ ⟨g, o, none⟩ la ca lb cb hne _ _ kA kB hsa hsb hkB (hfa 0) (hfa kA)]
  rfl

theorem size_ent : (Tryz.prog.info? 48).map (·.size) = some 3 := by
  obtain ⟨i0, hi, hz0, hz1, hz2⟩ := info_parts info_ent
  rw [hi]
  simp [hz1]

set_option maxRecDepth 100000 in
set_option maxHeartbeats 4000000 in
theorem insertE_room (g cap : Nat) (l : List Ent) (B : Nat) (w : World) (ho : OwnE w B (.slice (some ⟨g, 0, none⟩) l.length cap) l) (hB : B ≤ w.heap.size) (i : Nat) (hi : i < l.length) (hroom : l.length + 1 ≤ cap) (e : Ent) (I : Int) (hI : I = (i : Nat)) (N : Nat) (hN : N = w.heap.size) :
    Calls Tryz.prog 100 #[.slice (some ⟨g, 0, none⟩) l.length cap, .int .i64 I, .slice (some ⟨N, 0, none⟩) 1 1] (w.alloc (.cells (entC e) 48)) fun x w' => InsE w B (l.take i ++ (e :: l.drop i)) x w' := by
  subst hI
  rcases ho.row with ⟨h1, -⟩ | ⟨g', cap', cur, h1, hBg, hlt, hg, hn, hm, hs, hc⟩
  · cases h1
  injection h1 with h1 _ h3
  injection h1 with h1
  injection h1 with h1
  subst h1 h3
  clear ho
  have hv : (w.alloc (.cells (entC e) 48)).heap[N]? = some (.cells (entC e) 48 (0, 0)) := by rw [hN]; exact heap_alloc_new w _
  have hg0 : (w.alloc (.cells (entC e) 48)).heap[g]? = some (.cells cur 48 (0, 0)) := (Below.heap_alloc _ _ _ hlt).trans hg
  have HB0 : Hid (Below B w (w.alloc (.cells (entC e) 48))) := (Below.refl _ _).alloc hB _
  generalize w.alloc (.cells (entC e) 48) = W at *
  have hne : N ≠ g := by omega
  have hm' : (cap : Int) ≤ 9223372036854775807 := by unfold maxLen at hm; omega
  have hfz : ∀ (j : Nat), W.frozen? ⟨g, j, none⟩ = false := fun j => frozen_of_row W g j _ _ hg0
  have hov : ∀ la ca lb cb o, (callFunc 108 #[.slice (some ⟨N, 0, none⟩) la ca, .slice (some ⟨g, o, none⟩) lb cb]).run Tryz.prog W = .ok (.value (.bool false)) W := fun la ca lb cb o =>
    ov_ent W g N 3 (cap * 3) hne la ca lb cb o (by simp [World.shape?, hv, entC]) (by simp [World.shape?, hg0, hs]) (by omega) (fun k => frozen_of_row W N k _ _ hv)
  have hdl : (entCells (l.drop i)).length = (l.length - i) * 3 := by rw [entCells_length, List.length_drop]
  have hsome : ∀ j, j < (l.length + 1) * 3 → (W.cell? ⟨g, j, none⟩).isSome = true := fun j hj => by
    rw [cell_of_row W g j _ _ _ hg0, Array.getElem?_eq_getElem (by omega)]
    rfl
  have hcp1 : ∀ W', (∀ x, W'.cell? x = W.cell? x) → (∀ x, W'.frozen? x = W.frozen? x) → ∀ ty dc sc, (Builtin.copy_ #[23, 23] ty #[.slice (some ⟨g, (i + 1) * 3, none⟩) (l.length - i) dc, .slice (some ⟨g, i * 3, none⟩) (l.length + 1 - i) sc]).run Tryz.prog W' = .ok (goInt (Nat.min (l.length + 1 - i) (l.length - i))) (W'.setCells g ((i + 1) * 3) (entCells (l.drop i))) := fun W' hWc hWf ty dc sc =>
    run_copy_many W' _ _ ty 48 3 g ((i + 1) * 3) (l.length - i) dc ⟨g, i * 3, none⟩ (l.length + 1 - i) sc (entCells (l.drop i)) Tryz.underlying23 size_ent (by rw [hdl]; simp only [Nat.min_def]; split <;> omega)
      (fun j v hj => by
        have hj' : j < (l.length - i) * 3 := by rw [← hdl]; exact (List.getElem?_eq_some_iff.1 hj).1
        rw [Addr.add_lit, hWc, cell_of_row W g _ _ _ _ hg0, hc _ (by omega)]
        rw [entCells_drop, List.getElem?_drop] at hj
        exact hj)
      (fun j hj => by rw [hWc]; exact hsome _ (by omega)) (fun j hj => by rw [hWf]; exact hfz _) (entCells_one _)
  obtain ⟨W1, hW1⟩ : ∃ W1, W1 = W.drew.setCells g ((i + 1) * 3) (entCells (l.drop i)) := ⟨_, rfl⟩
  have hg1 : W1.heap[g]? = some (.cells (layC cur ((i + 1) * 3) (entCells (l.drop i))) 48 (0, 0)) := by rw [hW1]; exact heap_setCells g _ _ _ W.drew cur hg0
  have hv1 : W1.heap[N]? = some (.cells (entC e) 48 (0, 0)) := by rw [hW1, setCells_other g _ _ _ N hne]; exact hv
  have hl3 : (entCells [e]).length = 3 := entCells_length [e]
  have hcp2 : ∀ W', (∀ x, W'.cell? x = W1.cell? x) → (∀ x, W'.frozen? x = W1.frozen? x) → ∀ ty dc, (Builtin.copy_ #[23, 23] ty #[.slice (some ⟨g, i * 3, none⟩) (l.length + 1 - i) dc, .slice (some ⟨N, 0, none⟩) 1 1]).run Tryz.prog W' = .ok (goInt (Nat.min 1 (l.length + 1 - i))) (W'.setCells g (i * 3) (entCells [e])) := fun W' hWc hWf ty dc =>
    run_copy_many W' _ _ ty 48 3 g (i * 3) (l.length + 1 - i) dc ⟨N, 0, none⟩ 1 1 (entCells [e]) Tryz.underlying23 size_ent (by rw [hl3]; simp only [Nat.min_def]; split <;> omega)
      (fun j v hj => by
        rw [Addr.add_lit, hWc, Nat.zero_add, cell_of_row W1 N _ _ _ _ hv1]
        have : (entCells [e])[j]? = (entC e)[j]? := by
          have hj' : j < 3 := by rw [← hl3]; exact (List.getElem?_eq_some_iff.1 hj).1
          have := entCells_get [e] 0 j (by simp) hj'
          rwa [Nat.zero_mul, Nat.zero_add] at this
        rw [← this]
        exact hj)
      (fun j hj => by
        rw [hWc, cell_of_row W1 g _ _ _ _ hg1, Array.getElem?_eq_getElem (by rw [layC_size]; omega)]
        rfl) (fun j hj => by rw [hWf]; exact frozen_of_row W1 g _ _ _ hg1) (entCells_one _)
  have HFIN : Hid (InsE w B (l.take i ++ (e :: l.drop i)) (.returned (.slice (some ⟨g, 0, none⟩) (l.length + 1) cap)) (W1.setCells g (i * 3) (entCells [e]))) := hide (by
    refine ⟨_, rfl, OwnE.ofRow (ins_length l i (by omega) e).symm hBg (heap_setCells g _ _ _ W1 _ hg1) (by rw [ins_length l i (by omega) e]; exact hroom) hm (by rw [layC_size, layC_size]; exact hs) (fun j hj => ?_), ?_⟩
    · rw [ins_length l i (by omega) e] at hj
      refine ins_cells3 l i (by omega) e (fun j => (layC (layC cur ((i + 1) * 3) (entCells (l.drop i))) (i * 3) (entCells [e]))[j]?) (fun k hk => ?_) (fun k hk => ?_) (fun k hk => ?_) j hj
      · show (layC (layC cur ((i + 1) * 3) (entCells (l.drop i))) (i * 3) (entCells [e]))[k]? = _
        rw [layC_get _ _ _ _ (by rw [layC_size]; omega), if_neg (by omega), layC_get _ _ _ _ (by omega), if_neg (by omega)]
        exact hc k (by omega)
      · show (layC (layC cur ((i + 1) * 3) (entCells (l.drop i))) (i * 3) (entCells [e]))[i * 3 + k]? = _
        rw [layC_get _ _ _ _ (by rw [layC_size]; omega), if_pos (by omega), Nat.add_sub_cancel_left]
      · show (layC (layC cur ((i + 1) * 3) (entCells (l.drop i))) (i * 3) (entCells [e]))[(i + 1) * 3 + k]? = _
        rw [layC_get _ _ _ _ (by rw [layC_size]; omega), if_neg (by omega), layC_get _ _ _ _ (by omega), if_pos (by omega), Nat.add_sub_cancel_left]
    · rw [hW1]
      exact belowCells hBg _ _ _ (belowCells hBg _ _ _ (belowDrew HB0.out)))
  have hcq1 := fun ty dc sc => hcp1 W.drew (fun _ => rfl) (fun _ => rfl) ty dc sc
  have hcq2 := fun ty dc => hcp2 W1 (fun _ => rfl) (fun _ => rfl) ty dc
  clear hcp1 hcp2
  rw [hW1] at HFIN hcq2
  clear hW1 hg1 hv1 hc hs hg hg0 hv hsome hfz hm HB0 hdl hl3 hN
  have mixed : Tryz.prog.follows .mixedOrders = true := by kernel_rfl
  have hz2 : ¬ ((i : Int) = (l.length : Int)) := by omega
  have hz3 : ((i : Int) == (l.length : Int)) = false := beq_eq_false_iff_ne.2 hz2
  have hw1 : IntKind.i64.wrap ((i : Int) + 1) = (i : Int) + 1 := by rw [IntKind.wrap_i64]; omega
  have hw2 : IntKind.i64.wrap ((l.length : Int) + 1) = (l.length : Int) + 1 := by rw [IntKind.wrap_i64]; omega
  have hb1 : (0 : Int) ≤ (i : Int) + 1 := by omega
  have hin : i ≤ l.length := by omega
  have hini : (i : Int) ≤ (l.length : Int) := by omega
  have htn : ((i : Int) + 1).toNat = i + 1 := by omega
  have htl : ((l.length : Int) + 1).toNat = l.length + 1 := by omega
  have hb2 : ¬ (cap = i + 1) := by omega
  have hb3 : (i : Int) ≤ (l.length : Int) + 1 := by omega
  have hb4 : ¬ (cap = i) := by omega
  have hb5 : ¬ ((cap : Int) < (l.length : Int) + 1) := by omega
  have hb6 : (l.length : Int) + 1 ≤ (cap : Int) := by omega
  have hb7 : (i : Int) + 1 ≤ (l.length : Int) + 1 := by omega
  generalize entCells (l.drop i) = dcs at *
  generalize entCells [e] = ecs at *
  generalize l.take i ++ (e :: l.drop i) = LL at *
  go_enter Tryz.func100, Tryz.ntmps100
  go_wp2_with (simp only [hov])
  go_region_law_o (refine step_copy_runI rfl _ _ 23 23 rfl _ _ (by simp [Act.eval, Act.put]) (by simp [Act.eval, Act.put]) (hcq1 _ _ _) ?_)
  go_wp2_with (at_builtin; refine wpList_copy_runI _ rfl _ _ 23 23 rfl _ _ rfl rfl (hcq2 _ _) ?_)
  go_wp2
  go_ret
  exact HFIN.out

end Go.Proofs.YtgpdbboieokldaaGreat

/- Contract over entries of slices.Insert: where there is no room. -/
namespace Go.Proofs.YtgpdbboieokldaaGreat
open Go.RowKit

set_option maxRecDepth 100000 in
set_option maxHeartbeats 4000000 in
theorem insertE_grow (g cap : Nat) (l : List Ent) (B : Nat) (w : World) (ho : OwnE w B (.slice (some ⟨g, 0, none⟩) l.length cap) l) (hB : B ≤ w.heap.size) (i : Nat) (hi : i < l.length) (hroom : cap < l.length + 1) (hlim : l.length ≤ 100000) (e : Ent) (I : Int) (hI : I = (i : Nat)) (N : Nat) (hN : N = w.heap.size) :
    Calls Tryz.prog 100 #[.slice (some ⟨g, 0, none⟩) l.length cap, .int .i64 I, .slice (some ⟨N, 0, none⟩) 1 1] (w.alloc (.cells (entC e) 48)) fun x w' => InsE w B (l.take i ++ (e :: l.drop i)) x w' := by
  subst hI
  rcases ho.row with ⟨h1, -⟩ | ⟨g', cap', cur, h1, hBg, hlt, hg, hn, hm, hs, hc⟩
  · cases h1
  injection h1 with h1 _ h3
  injection h1 with h1
  injection h1 with h1
  subst h1 h3
  clear ho
  obtain ⟨i0, hi0, hz0, hz1, hz2⟩ := info_parts info_ent
  have hv : (w.alloc (.cells (entC e) 48)).heap[N]? = some (.cells (entC e) 48 (0, 0)) := by rw [hN]; exact heap_alloc_new w _
  have hg0 : (w.alloc (.cells (entC e) 48)).heap[g]? = some (.cells cur 48 (0, 0)) := (Below.heap_alloc _ _ _ hlt).trans hg
  have HB0 : Hid (Below B w (w.alloc (.cells (entC e) 48))) := (Below.refl _ _).alloc hB _
  have hszW : (w.alloc (.cells (entC e) 48)).heap.size = w.heap.size + 1 := by simp
  generalize w.alloc (.cells (entC e) 48) = W at *
  have hl3 : (entCells [e]).length = 3 := entCells_length [e]
  have hdl : (entCells (l.drop i)).length = (l.length - i) * 3 := by rw [entCells_length, List.length_drop]
  have htl : ((entCells l).take (i * 3)).length = i * 3 := by rw [List.length_take, entCells_length]; omega
  have hold : (Builtin.firstCells i0.size i (.slice (some ⟨g, 0, none⟩) i cap)).run Tryz.prog W.drew = .ok ((entCells l).take (i * 3)).toArray W.drew := by
    rw [hz1]
    exact run_firstCells_some W.drew 3 i ⟨g, 0, none⟩ i cap ((entCells l).take (i * 3)) htl (fun j v hj => by
      have hj' : j < i * 3 := by rw [← htl]; exact (List.getElem?_eq_some_iff.1 hj).1
      rw [List.getElem?_take_of_lt hj'] at hj
      rw [Addr.add_lit, Nat.zero_add, cell_of_row W.drew g j _ _ _ hg0, hc j (by omega)]
      exact hj)
  have hik : i + (l.length + 1 - i) = l.length + 1 := by omega
  have hkk : (l.length : Int) + 1 - (i : Int) = ((l.length + 1 - i : Nat) : Int) := by omega
  obtain ⟨G, hG⟩ : ∃ G, G = grownCap W (l.length + 1) cap 48 := ⟨_, rfl⟩
  obtain ⟨ROW, hROW⟩ : ∃ ROW, ROW = ((entCells l).take (i * 3)).toArray ++ Builtin.zeroCells (Value.agg #[.int .i64 0, .int .i64 0, .int .i64 0]).cells (l.length + 1 - i) ++ Builtin.zeroCells (Value.agg #[.int .i64 0, .int .i64 0, .int .i64 0]).cells (G - (l.length + 1)) := ⟨_, rfl⟩
  have hrz : ∀ ty, (Builtin.append_ #[23, 3] ty #[.slice (some ⟨g, 0, none⟩) i cap, .int .i64 ((l.length : Int) + 1 - (i : Int))]).run Tryz.prog W = .ok (.slice (some ⟨W.heap.size, 0, none⟩) (l.length + 1) G) ((W.alloc (.cells ROW 48)).drew) := fun ty => by
    have h := Lib.run_append_grow_zeros W 23 3 ty 48 i0 _ .i64 .i64 Tryz.underlying23 Tryz.underlying3 hi0 hz0 (some ⟨g, 0, none⟩) i cap _ hold (l.length + 1 - i) (by omega) (by omega) (by omega) (by omega) (by rw [hz2]; omega) (by rw [hz2, hik]; exact growslice_fits_wide hroom (by omega))
    rw [hik, ← hG, ← hROW, ← hkk] at h
    exact h
  have hGn : l.length + 1 ≤ G := by rw [hG]; exact grownCap_ge W _ _ _
  have hGm : G ≤ maxLen := by rw [hG]; exact grownCap_le_maxLen W (l.length + 1) cap 48 (by unfold maxLen; omega)
  have hz3s : ∀ n, (Builtin.zeroCells (Value.agg #[.int .i64 0, .int .i64 0, .int .i64 0]).cells n).size = n * 3 := fun n => by
    rw [← Array.length_toList, zeroCells3, zeros3_length]
  have hRs : ROW.size = G * 3 := by
    rw [hROW, Array.size_append, Array.size_append, hz3s, hz3s, List.size_toArray, htl]
    omega
  have hRc : ∀ j, j < i * 3 → ROW[j]? = (entCells l)[j]? := fun j hj => by
    rw [hROW, Array.append_assoc, Array.getElem?_append_left (by rw [List.size_toArray, htl]; exact hj), List.getElem?_toArray, List.getElem?_take_of_lt hj]
  have hrow : (W.alloc (.cells ROW 48)).drew.heap[W.heap.size]? = some (.cells ROW 48 (0, 0)) := heap_alloc_new W _
  have hvW : (W.alloc (.cells ROW 48)).drew.heap[N]? = some (.cells (entC e) 48 (0, 0)) := (Below.heap_alloc W _ N (by omega)).trans hv
  have hgW : (W.alloc (.cells ROW 48)).drew.heap[g]? = some (.cells cur 48 (0, 0)) := (Below.heap_alloc W _ g (by omega)).trans hg0
  have HB1 : Hid (Below B w (W.alloc (.cells ROW 48)).drew) := hide (belowDrew (HB0.out.alloc (by omega) _))
  have hBM : B ≤ W.heap.size := by omega
  have hNM : N ≠ W.heap.size := by omega
  have hgM : g ≠ W.heap.size := by omega
  obtain ⟨W2, hW2⟩ : ∃ W2, W2 = (W.alloc (.cells ROW 48)).drew := ⟨_, rfl⟩
  rw [← hW2] at hrow hvW hgW HB1
  have hcq1 : ∀ ty dc, (Builtin.copy_ #[23, 23] ty #[.slice (some ⟨W.heap.size, i * 3, none⟩) (l.length + 1 - i) dc, .slice (some ⟨N, 0, none⟩) 1 1]).run Tryz.prog W2 = .ok (goInt (Nat.min 1 (l.length + 1 - i))) (W2.setCells W.heap.size (i * 3) (entCells [e])) := fun ty dc =>
    run_copy_many W2 _ _ ty 48 3 W.heap.size (i * 3) (l.length + 1 - i) dc ⟨N, 0, none⟩ 1 1 (entCells [e]) Tryz.underlying23 size_ent (by rw [hl3]; simp only [Nat.min_def]; split <;> omega)
      (fun j v hj => by
        rw [Addr.add_lit, Nat.zero_add, cell_of_row W2 N _ _ _ _ hvW]
        have : (entCells [e])[j]? = (entC e)[j]? := by
          have hj' : j < 3 := by rw [← hl3]; exact (List.getElem?_eq_some_iff.1 hj).1
          have := entCells_get [e] 0 j (by simp) hj'
          rwa [Nat.zero_mul, Nat.zero_add] at this
        rw [← this]
        exact hj)
      (fun j hj => by
        rw [cell_of_row W2 _ _ _ _ _ hrow, Array.getElem?_eq_getElem (by omega)]
        rfl) (fun j hj => frozen_of_row W2 _ _ _ _ hrow) (entCells_one _)
  obtain ⟨W3, hW3⟩ : ∃ W3, W3 = (W2.setCells W.heap.size (i * 3) (entCells [e])).drew := ⟨_, rfl⟩
  have hrow3 : W3.heap[W.heap.size]? = some (.cells (layC ROW (i * 3) (entCells [e])) 48 (0, 0)) := by rw [hW3]; exact heap_setCells _ _ _ _ W2 ROW hrow
  have hg3 : W3.heap[g]? = some (.cells cur 48 (0, 0)) := by
    rw [hW3]
    exact (setCells_other W.heap.size _ _ W2 g hgM).trans hgW
  have HB3 : Hid (Below B w W3) := hide (by rw [hW3]; exact belowDrew (belowCells hBM _ _ _ HB1.out))
  have hcq2 : ∀ ty dc sc, (Builtin.copy_ #[23, 23] ty #[.slice (some ⟨W.heap.size, (i + 1) * 3, none⟩) (l.length - i) dc, .slice (some ⟨g, i * 3, none⟩) (l.length - i) sc]).run Tryz.prog W3 = .ok (goInt (Nat.min (l.length - i) (l.length - i))) (W3.setCells W.heap.size ((i + 1) * 3) (entCells (l.drop i))) := fun ty dc sc =>
    run_copy_many W3 _ _ ty 48 3 W.heap.size ((i + 1) * 3) (l.length - i) dc ⟨g, i * 3, none⟩ (l.length - i) sc (entCells (l.drop i)) Tryz.underlying23 size_ent (by rw [hdl]; simp only [Nat.min_def]; split <;> omega)
      (fun j v hj => by
        have hj' : j < (l.length - i) * 3 := by rw [← hdl]; exact (List.getElem?_eq_some_iff.1 hj).1
        rw [Addr.add_lit, cell_of_row W3 g _ _ _ _ hg3, hc _ (by omega)]
        rw [entCells_drop, List.getElem?_drop] at hj
        exact hj)
      (fun j hj => by
        rw [cell_of_row W3 _ _ _ _ _ hrow3, Array.getElem?_eq_getElem (by rw [layC_size]; omega)]
        rfl) (fun j hj => frozen_of_row W3 _ _ _ _ hrow3) (entCells_one _)
  have HFIN : Hid (InsE w B (l.take i ++ (e :: l.drop i)) (.returned (.slice (some ⟨W.heap.size, 0, none⟩) (l.length + 1) G)) (W3.setCells W.heap.size ((i + 1) * 3) (entCells (l.drop i)))) := hide (by
    refine ⟨_, rfl, OwnE.ofRow (ins_length l i (by omega) e).symm hBM (heap_setCells _ _ _ _ W3 _ hrow3) (by rw [ins_length l i (by omega) e]; exact hGn) hGm (by rw [layC_size, layC_size]; exact hRs) (fun j hj => ?_), ?_⟩
    · rw [ins_length l i (by omega) e] at hj
      refine ins_cells3 l i (by omega) e (fun j => (layC (layC ROW (i * 3) (entCells [e])) ((i + 1) * 3) (entCells (l.drop i)))[j]?) (fun k hk => ?_) (fun k hk => ?_) (fun k hk => ?_) j hj
      · show (layC (layC ROW (i * 3) (entCells [e])) ((i + 1) * 3) (entCells (l.drop i)))[k]? = _
        rw [layC_get _ _ _ _ (by rw [layC_size]; omega), if_neg (by omega), layC_get _ _ _ _ (by omega), if_neg (by omega)]
        exact hRc k hk
      · show (layC (layC ROW (i * 3) (entCells [e])) ((i + 1) * 3) (entCells (l.drop i)))[i * 3 + k]? = _
        rw [layC_get _ _ _ _ (by rw [layC_size]; omega), if_neg (by omega), layC_get _ _ _ _ (by omega), if_pos (by omega), Nat.add_sub_cancel_left]
      · show (layC (layC ROW (i * 3) (entCells [e])) ((i + 1) * 3) (entCells (l.drop i)))[(i + 1) * 3 + k]? = _
        rw [layC_get _ _ _ _ (by rw [layC_size]; omega), if_pos (by omega), Nat.add_sub_cancel_left]
    · exact belowCells hBM _ _ _ HB3.out)
  rw [hW3] at HFIN hcq2
  rw [hW2] at HFIN hcq2 hcq1
  clear hW3 hW2 hg3 hrow3 hrow hvW hgW hRs hRc hz3s HB3 HB1 hold hROW hc hs hg hg0 hv hm HB0 hdl hl3 htl hz2 hz1 hz0 hi0 hG hNM hgM hGm hkk hik hszW hN hBM
  have mixed : Tryz.prog.follows .mixedOrders = true := by kernel_rfl
  have hz2 : ¬ ((i : Int) = (l.length : Int)) := by omega
  have hz3 : ((i : Int) == (l.length : Int)) = false := beq_eq_false_iff_ne.2 hz2
  have hw1 : IntKind.i64.wrap ((i : Int) + 1) = (i : Int) + 1 := by rw [IntKind.wrap_i64]; omega
  have hw2 : IntKind.i64.wrap ((l.length : Int) + 1) = (l.length : Int) + 1 := by rw [IntKind.wrap_i64]; omega
  have hb1 : (0 : Int) ≤ (i : Int) + 1 := by omega
  have hin : i ≤ l.length := by omega
  have hini : (i : Int) ≤ (l.length : Int) := by omega
  have hinc : (i : Int) ≤ (cap : Int) := by omega
  have hicc : i ≤ cap := by omega
  have htn : ((i : Int) + 1).toNat = i + 1 := by omega
  have htl : ((l.length : Int) + 1).toNat = l.length + 1 := by omega
  have hb2 : ¬ (G = i + 1) := by omega
  have hb3 : (i : Int) ≤ (l.length : Int) + 1 := by omega
  have hb4 : ¬ (cap = i) := by omega
  have hb4' : ¬ (G = i) := by omega
  have hb5 : (cap : Int) < (l.length : Int) + 1 := by omega
  have hb7 : (i : Int) + 1 ≤ (l.length : Int) + 1 := by omega
  have hlb : (l.length : Int) ≤ 100000 := by omega
  have hw3 : IntKind.i64.wrap ((l.length : Int) + 1 - (i : Int)) = (l.length : Int) + 1 - (i : Int) := by rw [IntKind.wrap_i64]; omega
  clear hB hBg hlt hlim
  generalize entCells (l.drop i) = dcs at *
  generalize entCells [e] = ecs at *
  generalize l.take i ++ (e :: l.drop i) = LL at *
  go_enter Tryz.func100, Tryz.ntmps100
  go_wp2_with (first
    | (at_builtin; refine Lib.wpList_append_run _ rfl _ _ _ _ rfl _ _ rfl rfl _ _ (hrz _) ?_)
    | (at_builtin; refine wpList_copy_runI _ rfl _ _ 23 23 rfl _ _ rfl rfl (hcq1 _ _) ?_))
  go_region_law_o (refine step_copy_runI rfl _ _ 23 23 rfl _ _ (by simp [Act.eval, Act.put]) (by simp [Act.eval, Act.put]) (hcq2 _ _ _) ?_)
  go_wp2
  go_ret
  exact HFIN.out

theorem insertE_any (v : Value) (l : List Ent) (B : Nat) (w : World) (ho : OwnE w B v l) (hB : B ≤ w.heap.size) (hlim : l.length ≤ 100000) (i : Nat) (hi : i ≤ l.length) (e : Ent) (he : EntI e) (I : Int) (hI : I = (i : Nat)) (N : Nat) (hN : N = w.heap.size) :
    Calls Tryz.prog 100 #[v, .int .i64 I, .slice (some ⟨N, 0, none⟩) 1 1] (w.alloc (.cells (entC e) 48)) fun x w' => InsE w B (l.take i ++ (e :: l.drop i)) x w' := by
  by_cases h : i = l.length
  · subst h
    exact insertE_end v l B w ho hB hlim e he I hI N hN
  · rcases ho.row with ⟨-, rfl⟩ | ⟨g, cap, cur, rfl, -⟩
    · exact absurd (by simpa using hi) (by simpa using h)
    · by_cases hr : l.length + 1 ≤ cap
      · exact insertE_room g cap l B w ho hB i (by omega) hr e I hI N hN
      · exact insertE_grow g cap l B w ho hB i (by omega) (by omega) hlim e I hI N hN

end Go.Proofs.YtgpdbboieokldaaGreat

