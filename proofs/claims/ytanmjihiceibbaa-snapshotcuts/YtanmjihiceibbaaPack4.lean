import Derived.Test.YtanmjihiceibbaaPack3
import Derived.Shelf.Spec.SlicesInsertGrow
import Derived.Deep.DeepAppendWide
import Derived.Test.YtanmjihiceibbaaPack2
import Derived.Test.YtanmjihiceibbaaPack1
import Derived.Deep.QuietTactic
import Derived.BigQuiet
/- Contract over entries of slices.DeleteFunc. -/
namespace Go.Proofs.Ytanmjihiceibbaa
open Go.RowKit

theorem filter_next (p : Ent → Bool) (l : List Ent) (j : Nat) (hj : j < l.length) : (l.take (j + 1)).filter (fun e => !p e) = (l.take j).filter (fun e => !p e) ++ if p (l.getD j zeroE) = true then [] else [l.getD j zeroE] := by
  have e1 : l.take (j + 1) = l.take j ++ [l.getD j zeroE] := by
    rw [List.take_add_one, List.getElem?_eq_getElem hj]
    simp [List.getD, hj]
  rw [e1, List.filter_append]
  congr 1
  generalize l.getD j zeroE = x
  cases h : p x <;> simp [h]

theorem filter_none (p : Ent → Bool) (l : List Ent) (i : Nat) (hi : i ≤ l.length) (h : ∀ j, j < i → p (l.getD j zeroE) = false) : (l.take i).filter (fun e => !p e) = l.take i := by
  rw [List.filter_eq_self]
  intro e he
  obtain ⟨j, hj, rfl⟩ := List.getElem_of_mem he
  rw [List.length_take] at hj
  have := h j (by omega)
  rw [List.getElem_take]
  simp only [List.getD, List.getElem?_eq_getElem (show j < l.length by omega), Option.getD_some] at this
  simp [this]

/-- Where the deleting stands: L is the row; i of it are kept, j are seen. -/
def DelAt (p : Ent → Bool) (l L : List Ent) (i j : Nat) : Prop := L.length = l.length ∧ L.take i = (l.take j).filter (fun e => !p e) ∧ L.drop j = l.drop j ∧ i < j

theorem DelAt.start {p : Ent → Bool} {l : List Ent} {i : Nat} (hi : i < l.length) (h : ∀ j, j < i → p (l.getD j zeroE) = false) (hp : p (l.getD i zeroE) = true) : DelAt p l l i (i + 1) := by
  refine ⟨rfl, ?_, rfl, Nat.lt_succ_self _⟩
  rw [filter_next p l i hi, if_pos hp, List.append_nil, filter_none p l i (by omega) h]

theorem DelAt.at {p : Ent → Bool} {l L : List Ent} {i j : Nat} (h : DelAt p l L i j) : L.getD j zeroE = l.getD j zeroE := by
  obtain ⟨h1, h2, h3, h4⟩ := h
  have e1 : (L.drop j).getD 0 zeroE = L.getD j zeroE := by simp [List.getD]
  have e2 : (l.drop j).getD 0 zeroE = l.getD j zeroE := by simp [List.getD]
  rw [← e1, ← e2, h3]

theorem drop_next {L l : List Ent} {j : Nat} (h : L.drop j = l.drop j) : L.drop (j + 1) = l.drop (j + 1) := by
  rw [← List.drop_drop, ← List.drop_drop, h]

theorem DelAt.skip {p : Ent → Bool} {l L : List Ent} {i j : Nat} (h : DelAt p l L i j) (hj : j < l.length) (hp : p (l.getD j zeroE) = true) : DelAt p l L i (j + 1) := by
  obtain ⟨h1, h2, h3, h4⟩ := h
  refine ⟨h1, ?_, drop_next h3, by omega⟩
  rw [filter_next p l j hj, if_pos hp, List.append_nil, h2]

theorem DelAt.keep {p : Ent → Bool} {l L : List Ent} {i j : Nat} (h : DelAt p l L i j) (hj : j < l.length) (hp : p (l.getD j zeroE) = false) : DelAt p l (L.set i (l.getD j zeroE)) (i + 1) (j + 1) := by
  obtain ⟨h1, h2, h3, h4⟩ := h
  refine ⟨by rw [List.length_set, h1], ?_, ?_, by omega⟩
  · rw [filter_next p l j hj, if_neg (by rw [hp]; simp), ← h2, List.take_add_one, List.take_set_of_le (Nat.le_refl _)]
    congr 1
    rw [List.getElem?_set_self (by omega)]
    rfl
  · rw [List.drop_set_of_lt (by omega)]
    exact drop_next h3

/-- An entry's three cells, written one by one. -/
theorem OwnE.put3 {w : World} {B g n cap : Nat} {l : List Ent} (h : OwnE w B (.slice (some ⟨g, 0, none⟩) n cap) l) (i : Nat) (hi : i < l.length) (p s r : Int) (o0 o1 o2 : Nat) (h0 : o0 = i * 3) (h1 : o1 = i * 3 + 1) (h2 : o2 = i * 3 + 2) :
    OwnE (((w.setCell ⟨g, o0, none⟩ (.int .i64 p)).setCell ⟨g, o1, none⟩ (.int .i64 s)).setCell ⟨g, o2, none⟩ (.int .i64 r)) B (.slice (some ⟨g, 0, none⟩) n cap) (l.set i ⟨p, s, r⟩) := by
  subst h0 h1 h2
  exact h.put i hi ⟨p, s, r⟩

theorem OwnE.ent {w : World} {B g n cap : Nat} {l : List Ent} (h : OwnE w B (.slice (some ⟨g, 0, none⟩) n cap) l) (i : Nat) (hi : i < l.length) : EntAt w g (i * 3) (l.getD i zeroE) ∧ (∀ k, w.frozen? ⟨g, k, none⟩ = false) ∧ B ≤ g ∧ l.length ≤ cap ∧ cap ≤ maxLen ∧ n = l.length := by
  rcases h.row with ⟨h1, -⟩ | ⟨g', cap', cur, h1, hB, hlt, hg, hc, hm, hs, hcell⟩
  · cases h1
  · injection h1 with h1 h2 h3
    injection h1 with h1
    injection h1 with h1
    subst h1 h3
    have hx : ∀ k, k < 3 → w.cell? ⟨g, i * 3 + k, none⟩ = (entC (l.getD i zeroE))[k]? := fun k hk => by
      rw [cell_of_row w g (i * 3 + k) _ _ _ hg, hcell _ (by omega), entCells_get l i k hi hk]
    exact ⟨⟨hx 0 (by decide), hx 1 (by decide), hx 2 (by decide)⟩, fun k => frozen_of_row w g k _ _ hg, hB, hc, hm, h2⟩

theorem belowStore3 {C : Nat} {w0 w : World} (h : Below C w0 w) (R : Nat) (hR : C ≤ R) (o0 o1 o2 : Nat) (x0 x1 x2 : Value) : Below C w0 (((w.setCell ⟨R, o0, none⟩ x0).setCell ⟨R, o1, none⟩ x1).setCell ⟨R, o2, none⟩ x2) :=
  ((h.setCell hR _).setCell hR _).setCell hR _

theorem zeroValue_ent (w : World) : (zeroValue 48).run Try.prog w = .ok (.agg #[.int .i64 0, .int .i64 0, .int .i64 0]) w := Try.zeroValue48 w

set_option maxRecDepth 100000 in
set_option maxHeartbeats 4000000 in
theorem deleteFuncE_any (g R : Nat) (p : Ent → Bool) (v : Value) (l : List Ent) (B : Nat) (w : World) (ho : OwnE w B v l) (hI : ∀ e ∈ l, EntI e) (hBw : B ≤ w.heap.size) (hlim : l.length ≤ 1000000)
    (eg : ∀ args W, (callFunc g args).run Try.prog W = .ok (.enter g args) W)
    (hp : ∀ W e, Below B w W → Calls Try.prog g #[entV e, .pointer (some ⟨R, 0, none⟩)] W fun x w' => x = .returned (.bool (p e)) ∧ Below W.heap.size W w') :
    Calls Try.prog 46 #[v, .func (.func g) #[] #[.pointer (some ⟨R, 0, none⟩)]] w fun x w' => ∃ v', x = .returned v' ∧ OwnE w' B v' (l.filter (fun e => !p e)) ∧ Below B w w' := by
  have HO := hide ho
  have HP := hide hp
  have HIX := hide (indexFuncE_any g R p v l w (ho.rd hI) eg (fun W e h => hp W e (h.mono hBw)))
  obtain ⟨va, vc, hv⟩ := ho.shape
  subst hv
  clear ho hp
  go_enter Try.func46, Try.ntmps46
  go_wp2_with fail
  refine HIX.out.mono ?_
  rintro x W0 ⟨k, rfl, hf, hb0⟩
  have HB0 := hide (hb0.mono hBw)
  have HO0 := hide (HO.out.below hb0 (Nat.le_refl _))
  clear HIX hb0 HO
  rcases hf with ⟨rfl, hf⟩ | ⟨i0, rfl, hi0, hf, hpi⟩
  · have HE : Hid (l.filter (fun e => !p e) = l) := hide (by
      have := filter_none p l l.length (Nat.le_refl _) hf
      rwa [List.take_length] at this)
    clear hf
    go_wp2
    go_ret
    exact ⟨_, rfl, by rw [HE.out]; exact HO0.out, HB0.out⟩
  have HD0 := hide (DelAt.start hi0 hf hpi)
  clear hf hpi
  rcases HO0.out.row with ⟨-, h2⟩ | ⟨gr, cap, cur, h1, hBg, -, -, hlc, hcm, -, -⟩
  · rw [h2] at hi0; simp at hi0
  injection h1 with h1 _ h3
  subst h1 h3
  have hml : (l.length : Int) ≤ 1000000 := by omega
  clear cur hcm
  have ei : ((i0 : Int) == -1) = false := beq_eq_false_iff_ne.2 (by omega)
  go_wp2
  go_loopw [5, 6] (fun v5 v6 wr => ∃ (i j : Nat) (L : List Ent), v5 = .int .i64 (i : Int) ∧ v6 = .int .i64 (j : Int) ∧ i < j ∧ j ≤ l.length ∧ Hid (OwnE wr B (.slice (some ⟨gr, 0, none⟩) l.length vc) L) ∧ Hid (DelAt p l L i j) ∧ Hid (Below B w wr)) (fun _ v6 _ => l.length - (intOf v6).toNat)
  case atStart => exact ⟨i0, i0 + 1, l, rfl, by go_num, by omega, by omega, HO0, HD0, HB0⟩
  case round =>
    clear HO0 HD0 HB0 ei
    obtain ⟨i, j, L, rfl, rfl, hij, hjl, hO, hD, hB⟩ := hrel
    by_cases hlt : j < l.length
    case neg =>
      obtain rfl : j = l.length := by omega
      have hL : L.length = l.length := hD.out.1
      have HT : Hid (L.take i = l.filter (fun e => !p e)) := hide (by rw [hD.out.2.1, List.take_length])
      have hE := (hO.out.ent i (by omega)).2.1
      have HK : Hid (∀ ty, (Builtin.clear_ #[25] ty #[.slice (some ⟨gr, i * 3, none⟩) (l.length - i) (vc - i)]).run Try.prog wr = .ok (.tuple #[]) (wr.setCells gr (i * 3) (zeros3 (l.length - i)))) := hide (fun ty =>
        run_clear_three wr _ _ _ Try.underlying25 zeroValue_ent gr (i * 3) (l.length - i) (vc - i) (by omega) (fun k hk => by
          obtain ⟨q, r, hr, rfl⟩ : ∃ q r, r < 3 ∧ k = q * 3 + r := ⟨k / 3, k % 3, Nat.mod_lt _ (by decide), by omega⟩
          have := (hO.out.ent (i + q) (by omega)).1
          rw [show i * 3 + (q * 3 + r) = (i + q) * 3 + r by omega]
          match r, hr with
          | 0, _ => rw [show (i + q) * 3 + 0 = (i + q) * 3 from rfl, this.1]; rfl
          | 1, _ => rw [this.2.1]; rfl
          | 2, _ => rw [this.2.2]; rfl) (fun k _ => hE _))
      have HOC := hide ((hO.out.cut i (by omega)).cells (i * 3) (by rw [List.length_take]; omega) (zeros3 (l.length - i)))
      rw [HT.out] at HOC
      have HBC := hide (belowCells hBg (zeros3 (l.length - i)) (i * 3) wr hB.out)
      have hvi : ¬ (vc = i) := by omega
      have hb1 : (i : Int) ≤ (l.length : Int) := by omega
      have hb2 : (i : Int) ≤ (vc : Int) := by omega
      have hb3 : i ≤ l.length := by omega
      have hb4 : i ≤ vc := by omega
      clear hE
      have hK := HK.out
      go_wp2
      go_ret
      exact ⟨_, rfl, HOC.out, HBC.out⟩
    have hji : (j : Int) < (l.length : Int) := by omega
    have hLl : L.length = l.length := hD.out.1
    obtain ⟨⟨c0, c1, c2⟩, -, -⟩ := hO.out.ent j (by omega)
    rw [hD.out.at] at c0 c1 c2
    have HSK := hide (hD.out.skip hlt)
    have HKP := hide (hD.out.keep hlt)
    obtain ⟨e, he⟩ : ∃ e, e = l.getD j zeroE := ⟨_, rfl⟩
    rw [← he] at c0 c1 c2 HSK HKP
    obtain ⟨pe, hpe⟩ : ∃ pe, pe = p e := ⟨_, rfl⟩
    have HC := hide (fun W h => HP.out W e h)
    rw [← hpe] at HC HSK HKP
    obtain ⟨ep, es, er⟩ := e
    unfold entV at HC
    simp only at HC c0 c1 c2 HKP
    clear he hpe hD
    have HB2 : Hid (∀ X, Below B w (wr.alloc X)) := hide (fun X => hB.out.alloc (Nat.le_trans hBw hB.out.size) X)
    have HX : Hid (Be (wr.alloc (.cells #[.int .i64 ep, .int .i64 es, .int .i64 er] 48)) wr.heap.size #[.int .i64 ep, .int .i64 es, .int .i64 er]) := hide (heap_alloc_new wr _)
    have HOW : Hid (∀ X, OwnE (wr.alloc X) B (.slice (some ⟨gr, 0, none⟩) l.length vc) L) := hide (fun X => hO.out.below ((Below.refl _ _).alloc (Nat.le_refl _) X) (Nat.le_refl _))
    go_wp2_with fail
    refine (HC.out _ (HB2.out _)).mono ?_
    rintro x W1 ⟨rfl, hb1⟩
    have HB3 := hide ((HB2.out (.cells #[.int .i64 ep, .int .i64 es, .int .i64 er] 48)).trans (hb1.mono (by have := hB.out.size; simp; omega)))
    have HX3 := hide (HX.out.below hb1 (Nat.le_refl _))
    have HO3 := hide ((HOW.out (.cells #[.int .i64 ep, .int .i64 es, .int .i64 er] 48)).below hb1 (Nat.le_refl _))
    clear hb1 HC HB2 HX HOW c0 c1 c2 hO hB
    cases pe with
    | true =>
      go_wp2
      go_roundw
      case rel => exact ⟨i, j + 1, L, rfl, by go_num, by omega, by omega, HO3, hide (HSK.out (by simp)), HB3⟩
      case measure => simp [intOf]; omega
    | false =>
      obtain ⟨⟨d0, d1, d2⟩, hfz, hBg2, -⟩ := HO3.out.ent i (by omega)
      obtain ⟨b0, f0⟩ := HX3.out.cell 0
      obtain ⟨b1, f1⟩ := HX3.out.cell 1
      obtain ⟨b2, f2⟩ := HX3.out.cell 2
      have z0 := hfz (i * 3)
      have z1 := hfz (i * 3 + 1)
      have z2 := hfz (i * 3 + 2)
      have hii : (i : Int) < (l.length : Int) := by omega
      have hil : i < l.length := by omega
      clear hfz
      go_wp2
      go_roundw
      case rel => exact ⟨i + 1, j + 1, L.set i ⟨ep, es, er⟩, by go_num, by go_num, by omega, by omega, hide (HO3.out.put3 i (by omega) ep es er _ _ _ (by omega) (by omega) (by omega)), hide (HKP.out (by simp)), hide (belowStore3 HB3.out gr hBg _ _ _ _ _ _)⟩
      case measure => simp [intOf]; omega

end Go.Proofs.Ytanmjihiceibbaa

/- Contract over entries of slices.Insert. -/
namespace Go.Proofs.Ytanmjihiceibbaa
open Go.RowKit

theorem RdE.one (w : World) (e : Ent) (he : EntI e) : RdE (w.alloc (.cells (entC e) 48)) (.slice (some ⟨w.heap.size, 0, none⟩) 1 1) [e] := by
  have h := OwnE.ofRow (w := w.alloc (.cells (entC e) 48)) (B := w.heap.size) (g := w.heap.size) (cap := 1) (l := [e]) (n := 1) rfl (Nat.le_refl _) (heap_alloc_new w _) (Nat.le_refl _) (by unfold maxLen; decide) rfl (fun j hj => by
    rw [List.length_singleton] at hj
    match j, hj with
    | 0, _ => rfl
    | 1, _ => rfl
    | 2, _ => rfl)
  exact h.rd (fun x hx => by rw [List.mem_singleton.1 hx]; exact he)

theorem ins_cells3 (l : List Ent) (i : Nat) (hi : i ≤ l.length) (e : Ent) (f : Nat → Option Value) (h1 : ∀ j, j < i * 3 → f j = (entCells l)[j]?) (h2 : ∀ j, j < 3 → f (i * 3 + j) = (entCells [e])[j]?)
    (h3 : ∀ j, j < (l.length - i) * 3 → f ((i + 1) * 3 + j) = (entCells (l.drop i))[j]?) (j : Nat) (hj : j < (l.length + 1) * 3) : f j = (entCells (l.take i ++ (e :: l.drop i)))[j]? := by
  have e1 : l.take i ++ (e :: l.drop i) = l.take i ++ ([e] ++ l.drop i) := rfl
  have l1 : (entCells (l.take i)).length = i * 3 := by rw [entCells_length, List.length_take]; congr 1; omega
  have l2 : (entCells [e]).length = 3 := entCells_length [e]
  rw [e1, entCells_app, entCells_app]
  by_cases g1 : j < i * 3
  · rw [List.getElem?_append_left (by omega), h1 j g1, entCells_take, List.getElem?_take_of_lt g1]
  · rw [List.getElem?_append_right (by omega), l1]
    by_cases g2 : j < i * 3 + 3
    · rw [List.getElem?_append_left (by omega), ← h2 (j - i * 3) (by omega)]
      congr 1
      omega
    · rw [List.getElem?_append_right (by omega), l2, ← h3 (j - i * 3 - 3) (by omega)]
      congr 1
      omega

theorem ins_length (l : List Ent) (i : Nat) (hi : i ≤ l.length) (e : Ent) : (l.take i ++ (e :: l.drop i)).length = l.length + 1 := by simp; omega

/-- What slices.Insert answers. -/
def InsE (w : World) (B : Nat) (L : List Ent) (x : Ending) (w' : World) : Prop := ∃ v', x = .returned v' ∧ OwnE w' B v' L ∧ Below B w w'

set_option maxRecDepth 100000 in
set_option maxHeartbeats 2000000 in
theorem insertE_end (v : Value) (l : List Ent) (B : Nat) (w : World) (ho : OwnE w B v l) (hB : B ≤ w.heap.size) (hlim : l.length ≤ 100000) (e : Ent) (he : EntI e) (I : Int) (hI : I = (l.length : Nat)) (N : Nat) (hN : N = w.heap.size) :
    Calls Try.prog 48 #[v, .int .i64 I, .slice (some ⟨N, 0, none⟩) 1 1] (w.alloc (.cells (entC e) 48)) fun x w' => InsE w B (l.take l.length ++ (e :: l.drop l.length)) x w' := by
  subst hI hN
  have HE : Hid (l.take l.length ++ (e :: l.drop l.length) = l ++ [e]) := hide (by rw [List.take_length, List.drop_length])
  rw [HE.out]
  have HR := hide (RdE.one w e he)
  have HB0 : Hid (∀ X, Below B w (w.alloc X)) := fun X => (Below.refl _ _).alloc hB X
  have HO := hide (ho.below ((Below.refl w.heap.size w).alloc (Nat.le_refl _) (.cells (entC e) 48)) (Nat.le_refl _))
  have hsz : B ≤ (w.alloc (.cells (entC e) 48)).heap.size := by simp; omega
  rcases ho.row with ⟨rfl, rfl⟩ | ⟨g, cap, cur, rfl, hBg, hlt, hg, hn, hm, hs, hc⟩
  · clear ho HE
    go_enter Try.func48, Try.ntmps48
    go_wp2_with (at_builtin; refine wpList_append_ents _ rfl _ _ rfl B _ [] rfl HO.out _ [e] rfl HR.out (by simp) hsz ?_)
    intro v1 W1 ho1 hb1
    have HO1 := hide ho1
    have HB1 := hide ((HB0.out _).trans hb1)
    clear ho1 hb1
    go_wp2
    go_ret
    exact ⟨_, rfl, HO1.out, HB1.out⟩
  · have hmi : (cap : Int) ≤ 9223372036854775807 := by unfold maxLen at hm; omega
    have hni : (l.length : Int) ≤ (cap : Int) := by omega
    clear ho HE hc hg hs hm
    by_cases hcl : cap = l.length
    all_goals
      go_enter Try.func48, Try.ntmps48
      go_wp2_with (at_builtin; refine wpList_append_ents _ rfl _ _ rfl B _ l rfl HO.out _ [e] rfl HR.out (by simp; omega) hsz ?_)
      intro v1 W1 ho1 hb1
      have HO1 := hide ho1
      have HB1 := hide ((HB0.out _).trans hb1)
      clear ho1 hb1
      go_wp2
      go_ret
      exact ⟨_, rfl, HO1.out, HB1.out⟩

theorem ov_ent (w : World) (g N kA kB : Nat) (hne : N ≠ g) (la ca lb cb o : Nat) (hsa : w.shape? N = some (48, kA)) (hsb : w.shape? g = some (48, kB)) (hkB : kB ≠ 0) (hfa : ∀ k, w.frozen? ⟨N, k, none⟩ = false) :
    (callFunc 79 #[.slice (some ⟨N, 0, none⟩) la ca, .slice (some ⟨g, o, none⟩) lb cb]).run Try.prog w = .ok (.value (.bool false)) w := by
  rw [run_callFunc_extern Try.func79 (by kernel_rfl) (by kernel_rfl) (by kernel_rfl) (e := Extern.SlicesOverlaps.overlaps #[25, 25] #[4]) (by kernel_rfl),
    Lib.run_overlaps_apart w 25 4 48 Try.underlying25 3 Try.sizeOf48 ⟨N, 0, none⟩ ⟨g, o, none⟩ la ca lb cb hne _ _ kA kB hsa hsb hkB (hfa 0) (hfa kA)]
  rfl

theorem size_ent : (Try.prog.info? 48).map (·.size) = some 3 := by
  obtain ⟨i0, hi, hz0, hz1, hz2⟩ := info_parts info_ent
  rw [hi]
  simp [hz1]

set_option maxRecDepth 100000 in
set_option maxHeartbeats 4000000 in
theorem insertE_room (g cap : Nat) (l : List Ent) (B : Nat) (w : World) (ho : OwnE w B (.slice (some ⟨g, 0, none⟩) l.length cap) l) (hB : B ≤ w.heap.size) (i : Nat) (hi : i < l.length) (hroom : l.length + 1 ≤ cap) (e : Ent) (I : Int) (hI : I = (i : Nat)) (N : Nat) (hN : N = w.heap.size) :
    Calls Try.prog 48 #[.slice (some ⟨g, 0, none⟩) l.length cap, .int .i64 I, .slice (some ⟨N, 0, none⟩) 1 1] (w.alloc (.cells (entC e) 48)) fun x w' => InsE w B (l.take i ++ (e :: l.drop i)) x w' := by
  subst hI
  rcases ho.row with ⟨h1, -⟩ | ⟨g', cap', cur, h1, hBg, hlt, hg, hn, hm, hs, hc⟩
  · cases h1
  injection h1 with h1 _ h3
  injection h1 with h1
  injection h1 with h1
  subst h1 h3
  clear ho
  have hv : (w.alloc (.cells (entC e) 48)).heap[N]? = some (.cells (entC e) 48 (0, 0)) := by rw [hN]; exact heap_alloc_new w _
  have hg0 : (w.alloc (.cells (entC e) 48)).heap[g]? = some (.cells cur 48 (0, 0)) := (Below.heap_alloc _ _ _ hlt).trans hg
  have HB0 : Hid (Below B w (w.alloc (.cells (entC e) 48))) := (Below.refl _ _).alloc hB _
  generalize w.alloc (.cells (entC e) 48) = W at *
  have hne : N ≠ g := by omega
  have hm' : (cap : Int) ≤ 9223372036854775807 := by unfold maxLen at hm; omega
  have hfz : ∀ (j : Nat), W.frozen? ⟨g, j, none⟩ = false := fun j => frozen_of_row W g j _ _ hg0
  have hov : ∀ la ca lb cb o, (callFunc 79 #[.slice (some ⟨N, 0, none⟩) la ca, .slice (some ⟨g, o, none⟩) lb cb]).run Try.prog W = .ok (.value (.bool false)) W := fun la ca lb cb o =>
    ov_ent W g N 3 (cap * 3) hne la ca lb cb o (by simp [World.shape?, hv, entC]) (by simp [World.shape?, hg0, hs]) (by omega) (fun k => frozen_of_row W N k _ _ hv)
  have hdl : (entCells (l.drop i)).length = (l.length - i) * 3 := by rw [entCells_length, List.length_drop]
  have hsome : ∀ j, j < (l.length + 1) * 3 → (W.cell? ⟨g, j, none⟩).isSome = true := fun j hj => by
    rw [cell_of_row W g j _ _ _ hg0, Array.getElem?_eq_getElem (by omega)]
    rfl
  have hcp1 : ∀ W', (∀ x, W'.cell? x = W.cell? x) → (∀ x, W'.frozen? x = W.frozen? x) → ∀ ty dc sc, (Builtin.copy_ #[25, 25] ty #[.slice (some ⟨g, (i + 1) * 3, none⟩) (l.length - i) dc, .slice (some ⟨g, i * 3, none⟩) (l.length + 1 - i) sc]).run Try.prog W' = .ok (goInt (Nat.min (l.length + 1 - i) (l.length - i))) (W'.setCells g ((i + 1) * 3) (entCells (l.drop i))) := fun W' hWc hWf ty dc sc =>
    run_copy_many W' _ _ ty 48 3 g ((i + 1) * 3) (l.length - i) dc ⟨g, i * 3, none⟩ (l.length + 1 - i) sc (entCells (l.drop i)) Try.underlying25 size_ent (by rw [hdl]; simp only [Nat.min_def]; split <;> omega)
      (fun j v hj => by
        have hj' : j < (l.length - i) * 3 := by rw [← hdl]; exact (List.getElem?_eq_some_iff.1 hj).1
        rw [Addr.add_lit, hWc, cell_of_row W g _ _ _ _ hg0, hc _ (by omega)]
        rw [entCells_drop, List.getElem?_drop] at hj
        exact hj)
      (fun j hj => by rw [hWc]; exact hsome _ (by omega)) (fun j hj => by rw [hWf]; exact hfz _) (entCells_one _)
  obtain ⟨W1, hW1⟩ : ∃ W1, W1 = W.drew.setCells g ((i + 1) * 3) (entCells (l.drop i)) := ⟨_, rfl⟩
  have hg1 : W1.heap[g]? = some (.cells (layC cur ((i + 1) * 3) (entCells (l.drop i))) 48 (0, 0)) := by rw [hW1]; exact heap_setCells g _ _ _ W.drew cur hg0
  have hv1 : W1.heap[N]? = some (.cells (entC e) 48 (0, 0)) := by rw [hW1, setCells_other g _ _ _ N hne]; exact hv
  have hl3 : (entCells [e]).length = 3 := entCells_length [e]
  have hcp2 : ∀ W', (∀ x, W'.cell? x = W1.cell? x) → (∀ x, W'.frozen? x = W1.frozen? x) → ∀ ty dc, (Builtin.copy_ #[25, 25] ty #[.slice (some ⟨g, i * 3, none⟩) (l.length + 1 - i) dc, .slice (some ⟨N, 0, none⟩) 1 1]).run Try.prog W' = .ok (goInt (Nat.min 1 (l.length + 1 - i))) (W'.setCells g (i * 3) (entCells [e])) := fun W' hWc hWf ty dc =>
    run_copy_many W' _ _ ty 48 3 g (i * 3) (l.length + 1 - i) dc ⟨N, 0, none⟩ 1 1 (entCells [e]) Try.underlying25 size_ent (by rw [hl3]; simp only [Nat.min_def]; split <;> omega)
      (fun j v hj => by
        rw [Addr.add_lit, hWc, Nat.zero_add, cell_of_row W1 N _ _ _ _ hv1]
        have : (entCells [e])[j]? = (entC e)[j]? := by
          have hj' : j < 3 := by rw [← hl3]; exact (List.getElem?_eq_some_iff.1 hj).1
          have := entCells_get [e] 0 j (by simp) hj'
          rwa [Nat.zero_mul, Nat.zero_add] at this
        rw [← this]
        exact hj)
      (fun j hj => by
        rw [hWc, cell_of_row W1 g _ _ _ _ hg1, Array.getElem?_eq_getElem (by rw [layC_size]; omega)]
        rfl) (fun j hj => by rw [hWf]; exact frozen_of_row W1 g _ _ _ hg1) (entCells_one _)
  have HFIN : Hid (InsE w B (l.take i ++ (e :: l.drop i)) (.returned (.slice (some ⟨g, 0, none⟩) (l.length + 1) cap)) (W1.setCells g (i * 3) (entCells [e]))) := hide (by
    refine ⟨_, rfl, OwnE.ofRow (ins_length l i (by omega) e).symm hBg (heap_setCells g _ _ _ W1 _ hg1) (by rw [ins_length l i (by omega) e]; exact hroom) hm (by rw [layC_size, layC_size]; exact hs) (fun j hj => ?_), ?_⟩
    · rw [ins_length l i (by omega) e] at hj
      refine ins_cells3 l i (by omega) e (fun j => (layC (layC cur ((i + 1) * 3) (entCells (l.drop i))) (i * 3) (entCells [e]))[j]?) (fun k hk => ?_) (fun k hk => ?_) (fun k hk => ?_) j hj
      · show (layC (layC cur ((i + 1) * 3) (entCells (l.drop i))) (i * 3) (entCells [e]))[k]? = _
        rw [layC_get _ _ _ _ (by rw [layC_size]; omega), if_neg (by omega), layC_get _ _ _ _ (by omega), if_neg (by omega)]
        exact hc k (by omega)
      · show (layC (layC cur ((i + 1) * 3) (entCells (l.drop i))) (i * 3) (entCells [e]))[i * 3 + k]? = _
        rw [layC_get _ _ _ _ (by rw [layC_size]; omega), if_pos (by omega), Nat.add_sub_cancel_left]
      · show (layC (layC cur ((i + 1) * 3) (entCells (l.drop i))) (i * 3) (entCells [e]))[(i + 1) * 3 + k]? = _
        rw [layC_get _ _ _ _ (by rw [layC_size]; omega), if_neg (by omega), layC_get _ _ _ _ (by omega), if_pos (by omega), Nat.add_sub_cancel_left]
    · rw [hW1]
      exact belowCells hBg _ _ _ (belowCells hBg _ _ _ (belowDrew HB0.out)))
  have hcq1 := fun ty dc sc => hcp1 W.drew (fun _ => rfl) (fun _ => rfl) ty dc sc
  have hcq2 := fun ty dc => hcp2 W1 (fun _ => rfl) (fun _ => rfl) ty dc
  clear hcp1 hcp2
  rw [hW1] at HFIN hcq2
  clear hW1 hg1 hv1 hc hs hg hg0 hv hsome hfz hm HB0 hdl hl3 hN
  have mixed : Try.prog.follows .mixedOrders = true := by kernel_rfl
  have hz2 : ¬ ((i : Int) = (l.length : Int)) := by omega
  have hz3 : ((i : Int) == (l.length : Int)) = false := beq_eq_false_iff_ne.2 hz2
  have hw1 : IntKind.i64.wrap ((i : Int) + 1) = (i : Int) + 1 := by rw [IntKind.wrap_i64]; omega
  have hw2 : IntKind.i64.wrap ((l.length : Int) + 1) = (l.length : Int) + 1 := by rw [IntKind.wrap_i64]; omega
  have hb1 : (0 : Int) ≤ (i : Int) + 1 := by omega
  have hin : i ≤ l.length := by omega
  have hini : (i : Int) ≤ (l.length : Int) := by omega
  have htn : ((i : Int) + 1).toNat = i + 1 := by omega
  have htl : ((l.length : Int) + 1).toNat = l.length + 1 := by omega
  have hb2 : ¬ (cap = i + 1) := by omega
  have hb3 : (i : Int) ≤ (l.length : Int) + 1 := by omega
  have hb4 : ¬ (cap = i) := by omega
  have hb5 : ¬ ((cap : Int) < (l.length : Int) + 1) := by omega
  have hb6 : (l.length : Int) + 1 ≤ (cap : Int) := by omega
  have hb7 : (i : Int) + 1 ≤ (l.length : Int) + 1 := by omega
  generalize entCells (l.drop i) = dcs at *
  generalize entCells [e] = ecs at *
  generalize l.take i ++ (e :: l.drop i) = LL at *
  go_enter Try.func48, Try.ntmps48
  go_wp2_with (simp only [hov])
  go_region_law_o (refine step_copy_runI rfl _ _ 25 25 rfl _ _ (by simp [Act.eval, Act.put]) (by simp [Act.eval, Act.put]) (hcq1 _ _ _) ?_)
  go_wp2_with (at_builtin; refine wpList_copy_runI _ rfl _ _ 25 25 rfl _ _ rfl rfl (hcq2 _ _) ?_)
  go_wp2
  go_ret
  exact HFIN.out

end Go.Proofs.Ytanmjihiceibbaa

/- Contract over entries of slices.Insert: where there is no room. -/
namespace Go.Proofs.Ytanmjihiceibbaa
open Go.RowKit

set_option maxRecDepth 100000 in
set_option maxHeartbeats 4000000 in
theorem insertE_grow (g cap : Nat) (l : List Ent) (B : Nat) (w : World) (ho : OwnE w B (.slice (some ⟨g, 0, none⟩) l.length cap) l) (hB : B ≤ w.heap.size) (i : Nat) (hi : i < l.length) (hroom : cap < l.length + 1) (hlim : l.length ≤ 100000) (e : Ent) (I : Int) (hI : I = (i : Nat)) (N : Nat) (hN : N = w.heap.size) :
    Calls Try.prog 48 #[.slice (some ⟨g, 0, none⟩) l.length cap, .int .i64 I, .slice (some ⟨N, 0, none⟩) 1 1] (w.alloc (.cells (entC e) 48)) fun x w' => InsE w B (l.take i ++ (e :: l.drop i)) x w' := by
  subst hI
  rcases ho.row with ⟨h1, -⟩ | ⟨g', cap', cur, h1, hBg, hlt, hg, hn, hm, hs, hc⟩
  · cases h1
  injection h1 with h1 _ h3
  injection h1 with h1
  injection h1 with h1
  subst h1 h3
  clear ho
  obtain ⟨i0, hi0, hz0, hz1, hz2⟩ := info_parts info_ent
  have hv : (w.alloc (.cells (entC e) 48)).heap[N]? = some (.cells (entC e) 48 (0, 0)) := by rw [hN]; exact heap_alloc_new w _
  have hg0 : (w.alloc (.cells (entC e) 48)).heap[g]? = some (.cells cur 48 (0, 0)) := (Below.heap_alloc _ _ _ hlt).trans hg
  have HB0 : Hid (Below B w (w.alloc (.cells (entC e) 48))) := (Below.refl _ _).alloc hB _
  have hszW : (w.alloc (.cells (entC e) 48)).heap.size = w.heap.size + 1 := by simp
  generalize w.alloc (.cells (entC e) 48) = W at *
  have hl3 : (entCells [e]).length = 3 := entCells_length [e]
  have hdl : (entCells (l.drop i)).length = (l.length - i) * 3 := by rw [entCells_length, List.length_drop]
  have htl : ((entCells l).take (i * 3)).length = i * 3 := by rw [List.length_take, entCells_length]; omega
  have hold : (Builtin.firstCells i0.size i (.slice (some ⟨g, 0, none⟩) i cap)).run Try.prog W.drew = .ok ((entCells l).take (i * 3)).toArray W.drew := by
    rw [hz1]
    exact run_firstCells_some W.drew 3 i ⟨g, 0, none⟩ i cap ((entCells l).take (i * 3)) htl (fun j v hj => by
      have hj' : j < i * 3 := by rw [← htl]; exact (List.getElem?_eq_some_iff.1 hj).1
      rw [List.getElem?_take_of_lt hj'] at hj
      rw [Addr.add_lit, Nat.zero_add, cell_of_row W.drew g j _ _ _ hg0, hc j (by omega)]
      exact hj)
  have hik : i + (l.length + 1 - i) = l.length + 1 := by omega
  have hkk : (l.length : Int) + 1 - (i : Int) = ((l.length + 1 - i : Nat) : Int) := by omega
  obtain ⟨G, hG⟩ : ∃ G, G = grownCap W (l.length + 1) cap 48 := ⟨_, rfl⟩
  obtain ⟨ROW, hROW⟩ : ∃ ROW, ROW = ((entCells l).take (i * 3)).toArray ++ Builtin.zeroCells (Value.agg #[.int .i64 0, .int .i64 0, .int .i64 0]).cells (l.length + 1 - i) ++ Builtin.zeroCells (Value.agg #[.int .i64 0, .int .i64 0, .int .i64 0]).cells (G - (l.length + 1)) := ⟨_, rfl⟩
  have hrz : ∀ ty, (Builtin.append_ #[25, 3] ty #[.slice (some ⟨g, 0, none⟩) i cap, .int .i64 ((l.length : Int) + 1 - (i : Int))]).run Try.prog W = .ok (.slice (some ⟨W.heap.size, 0, none⟩) (l.length + 1) G) ((W.alloc (.cells ROW 48)).drew) := fun ty => by
    have h := Lib.run_append_grow_zeros W 25 3 ty 48 i0 _ .i64 .i64 Try.underlying25 Try.underlying3 hi0 hz0 (some ⟨g, 0, none⟩) i cap _ hold (l.length + 1 - i) (by omega) (by omega) (by omega) (by omega) (by rw [hz2]; omega) (by rw [hz2, hik]; exact growslice_fits_wide hroom (by omega))
    rw [hik, ← hG, ← hROW, ← hkk] at h
    exact h
  have hGn : l.length + 1 ≤ G := by rw [hG]; exact grownCap_ge W _ _ _
  have hGm : G ≤ maxLen := by rw [hG]; exact grownCap_le_maxLen W (l.length + 1) cap 48 (by unfold maxLen; omega)
  have hz3s : ∀ n, (Builtin.zeroCells (Value.agg #[.int .i64 0, .int .i64 0, .int .i64 0]).cells n).size = n * 3 := fun n => by
    rw [← Array.length_toList, zeroCells3, zeros3_length]
  have hRs : ROW.size = G * 3 := by
    rw [hROW, Array.size_append, Array.size_append, hz3s, hz3s, List.size_toArray, htl]
    omega
  have hRc : ∀ j, j < i * 3 → ROW[j]? = (entCells l)[j]? := fun j hj => by
    rw [hROW, Array.append_assoc, Array.getElem?_append_left (by rw [List.size_toArray, htl]; exact hj), List.getElem?_toArray, List.getElem?_take_of_lt hj]
  have hrow : (W.alloc (.cells ROW 48)).drew.heap[W.heap.size]? = some (.cells ROW 48 (0, 0)) := heap_alloc_new W _
  have hvW : (W.alloc (.cells ROW 48)).drew.heap[N]? = some (.cells (entC e) 48 (0, 0)) := (Below.heap_alloc W _ N (by omega)).trans hv
  have hgW : (W.alloc (.cells ROW 48)).drew.heap[g]? = some (.cells cur 48 (0, 0)) := (Below.heap_alloc W _ g (by omega)).trans hg0
  have HB1 : Hid (Below B w (W.alloc (.cells ROW 48)).drew) := hide (belowDrew (HB0.out.alloc (by omega) _))
  have hBM : B ≤ W.heap.size := by omega
  have hNM : N ≠ W.heap.size := by omega
  have hgM : g ≠ W.heap.size := by omega
  obtain ⟨W2, hW2⟩ : ∃ W2, W2 = (W.alloc (.cells ROW 48)).drew := ⟨_, rfl⟩
  rw [← hW2] at hrow hvW hgW HB1
  have hcq1 : ∀ ty dc, (Builtin.copy_ #[25, 25] ty #[.slice (some ⟨W.heap.size, i * 3, none⟩) (l.length + 1 - i) dc, .slice (some ⟨N, 0, none⟩) 1 1]).run Try.prog W2 = .ok (goInt (Nat.min 1 (l.length + 1 - i))) (W2.setCells W.heap.size (i * 3) (entCells [e])) := fun ty dc =>
    run_copy_many W2 _ _ ty 48 3 W.heap.size (i * 3) (l.length + 1 - i) dc ⟨N, 0, none⟩ 1 1 (entCells [e]) Try.underlying25 size_ent (by rw [hl3]; simp only [Nat.min_def]; split <;> omega)
      (fun j v hj => by
        rw [Addr.add_lit, Nat.zero_add, cell_of_row W2 N _ _ _ _ hvW]
        have : (entCells [e])[j]? = (entC e)[j]? := by
          have hj' : j < 3 := by rw [← hl3]; exact (List.getElem?_eq_some_iff.1 hj).1
          have := entCells_get [e] 0 j (by simp) hj'
          rwa [Nat.zero_mul, Nat.zero_add] at this
        rw [← this]
        exact hj)
      (fun j hj => by
        rw [cell_of_row W2 _ _ _ _ _ hrow, Array.getElem?_eq_getElem (by omega)]
        rfl) (fun j hj => frozen_of_row W2 _ _ _ _ hrow) (entCells_one _)
  obtain ⟨W3, hW3⟩ : ∃ W3, W3 = (W2.setCells W.heap.size (i * 3) (entCells [e])).drew := ⟨_, rfl⟩
  have hrow3 : W3.heap[W.heap.size]? = some (.cells (layC ROW (i * 3) (entCells [e])) 48 (0, 0)) := by rw [hW3]; exact heap_setCells _ _ _ _ W2 ROW hrow
  have hg3 : W3.heap[g]? = some (.cells cur 48 (0, 0)) := by
    rw [hW3]
    exact (setCells_other W.heap.size _ _ W2 g hgM).trans hgW
  have HB3 : Hid (Below B w W3) := hide (by rw [hW3]; exact belowDrew (belowCells hBM _ _ _ HB1.out))
  have hcq2 : ∀ ty dc sc, (Builtin.copy_ #[25, 25] ty #[.slice (some ⟨W.heap.size, (i + 1) * 3, none⟩) (l.length - i) dc, .slice (some ⟨g, i * 3, none⟩) (l.length - i) sc]).run Try.prog W3 = .ok (goInt (Nat.min (l.length - i) (l.length - i))) (W3.setCells W.heap.size ((i + 1) * 3) (entCells (l.drop i))) := fun ty dc sc =>
    run_copy_many W3 _ _ ty 48 3 W.heap.size ((i + 1) * 3) (l.length - i) dc ⟨g, i * 3, none⟩ (l.length - i) sc (entCells (l.drop i)) Try.underlying25 size_ent (by rw [hdl]; simp only [Nat.min_def]; split <;> omega)
      (fun j v hj => by
        have hj' : j < (l.length - i) * 3 := by rw [← hdl]; exact (List.getElem?_eq_some_iff.1 hj).1
        rw [Addr.add_lit, cell_of_row W3 g _ _ _ _ hg3, hc _ (by omega)]
        rw [entCells_drop, List.getElem?_drop] at hj
        exact hj)
      (fun j hj => by
        rw [cell_of_row W3 _ _ _ _ _ hrow3, Array.getElem?_eq_getElem (by rw [layC_size]; omega)]
        rfl) (fun j hj => frozen_of_row W3 _ _ _ _ hrow3) (entCells_one _)
  have HFIN : Hid (InsE w B (l.take i ++ (e :: l.drop i)) (.returned (.slice (some ⟨W.heap.size, 0, none⟩) (l.length + 1) G)) (W3.setCells W.heap.size ((i + 1) * 3) (entCells (l.drop i)))) := hide (by
    refine ⟨_, rfl, OwnE.ofRow (ins_length l i (by omega) e).symm hBM (heap_setCells _ _ _ _ W3 _ hrow3) (by rw [ins_length l i (by omega) e]; exact hGn) hGm (by rw [layC_size, layC_size]; exact hRs) (fun j hj => ?_), ?_⟩
    · rw [ins_length l i (by omega) e] at hj
      refine ins_cells3 l i (by omega) e (fun j => (layC (layC ROW (i * 3) (entCells [e])) ((i + 1) * 3) (entCells (l.drop i)))[j]?) (fun k hk => ?_) (fun k hk => ?_) (fun k hk => ?_) j hj
      · show (layC (layC ROW (i * 3) (entCells [e])) ((i + 1) * 3) (entCells (l.drop i)))[k]? = _
        rw [layC_get _ _ _ _ (by rw [layC_size]; omega), if_neg (by omega), layC_get _ _ _ _ (by omega), if_neg (by omega)]
        exact hRc k hk
      · show (layC (layC ROW (i * 3) (entCells [e])) ((i + 1) * 3) (entCells (l.drop i)))[i * 3 + k]? = _
        rw [layC_get _ _ _ _ (by rw [layC_size]; omega), if_neg (by omega), layC_get _ _ _ _ (by omega), if_pos (by omega), Nat.add_sub_cancel_left]
      · show (layC (layC ROW (i * 3) (entCells [e])) ((i + 1) * 3) (entCells (l.drop i)))[(i + 1) * 3 + k]? = _
        rw [layC_get _ _ _ _ (by rw [layC_size]; omega), if_pos (by omega), Nat.add_sub_cancel_left]
    · exact belowCells hBM _ _ _ HB3.out)
  rw [hW3] at HFIN hcq2
  rw [hW2] at HFIN hcq2 hcq1
  clear hW3 hW2 hg3 hrow3 hrow hvW hgW hRs hRc hz3s HB3 HB1 hold hROW hc hs hg hg0 hv hm HB0 hdl hl3 htl hz2 hz1 hz0 hi0 hG hNM hgM hGm hkk hik hszW hN hBM
  have mixed : Try.prog.follows .mixedOrders = true := by kernel_rfl
  have hz2 : ¬ ((i : Int) = (l.length : Int)) := by omega
  have hz3 : ((i : Int) == (l.length : Int)) = false := beq_eq_false_iff_ne.2 hz2
  have hw1 : IntKind.i64.wrap ((i : Int) + 1) = (i : Int) + 1 := by rw [IntKind.wrap_i64]; omega
  have hw2 : IntKind.i64.wrap ((l.length : Int) + 1) = (l.length : Int) + 1 := by rw [IntKind.wrap_i64]; omega
  have hb1 : (0 : Int) ≤ (i : Int) + 1 := by omega
  have hin : i ≤ l.length := by omega
  have hini : (i : Int) ≤ (l.length : Int) := by omega
  have hinc : (i : Int) ≤ (cap : Int) := by omega
  have hicc : i ≤ cap := by omega
  have htn : ((i : Int) + 1).toNat = i + 1 := by omega
  have htl : ((l.length : Int) + 1).toNat = l.length + 1 := by omega
  have hb2 : ¬ (G = i + 1) := by omega
  have hb3 : (i : Int) ≤ (l.length : Int) + 1 := by omega
  have hb4 : ¬ (cap = i) := by omega
  have hb4' : ¬ (G = i) := by omega
  have hb5 : (cap : Int) < (l.length : Int) + 1 := by omega
  have hb7 : (i : Int) + 1 ≤ (l.length : Int) + 1 := by omega
  have hlb : (l.length : Int) ≤ 100000 := by omega
  have hw3 : IntKind.i64.wrap ((l.length : Int) + 1 - (i : Int)) = (l.length : Int) + 1 - (i : Int) := by rw [IntKind.wrap_i64]; omega
  clear hB hBg hlt hlim
  generalize entCells (l.drop i) = dcs at *
  generalize entCells [e] = ecs at *
  generalize l.take i ++ (e :: l.drop i) = LL at *
  go_enter Try.func48, Try.ntmps48
  go_wp2_with (first
    | (at_builtin; refine Lib.wpList_append_run _ rfl _ _ _ _ rfl _ _ rfl rfl _ _ (hrz _) ?_)
    | (at_builtin; refine wpList_copy_runI _ rfl _ _ 25 25 rfl _ _ rfl rfl (hcq1 _ _) ?_))
  go_region_law_o (refine step_copy_runI rfl _ _ 25 25 rfl _ _ (by simp [Act.eval, Act.put]) (by simp [Act.eval, Act.put]) (hcq2 _ _ _) ?_)
  go_wp2
  go_ret
  exact HFIN.out

theorem insertE_any (v : Value) (l : List Ent) (B : Nat) (w : World) (ho : OwnE w B v l) (hB : B ≤ w.heap.size) (hlim : l.length ≤ 100000) (i : Nat) (hi : i ≤ l.length) (e : Ent) (he : EntI e) (I : Int) (hI : I = (i : Nat)) (N : Nat) (hN : N = w.heap.size) :
    Calls Try.prog 48 #[v, .int .i64 I, .slice (some ⟨N, 0, none⟩) 1 1] (w.alloc (.cells (entC e) 48)) fun x w' => InsE w B (l.take i ++ (e :: l.drop i)) x w' := by
  by_cases h : i = l.length
  · subst h
    exact insertE_end v l B w ho hB hlim e he I hI N hN
  · rcases ho.row with ⟨-, rfl⟩ | ⟨g, cap, cur, rfl, -⟩
    · exact absurd (by simpa using hi) (by simpa using h)
    · by_cases hr : l.length + 1 ≤ cap
      · exact insertE_room g cap l B w ho hB i (by omega) hr e I hI N hN
      · exact insertE_grow g cap l B w ho hB i (by omega) (by omega) hlim e I hI N hN

end Go.Proofs.Ytanmjihiceibbaa

/- Contracts of the document's answer for layer num, its readers: read, Get, GetSigned, Fixed, Zig, Zag. -/
namespace Go.Proofs.Ytanmjihiceibbaa
open Go.RowKit

theorem zigzag_neg' (n : Int) (h : ¬ 0 ≤ n) : ((Lib.zigzag n : Nat) : Int) = -(n + 1) * 2 + 1 := by
  unfold Lib.zigzag
  rw [if_neg h]
  omega

set_option maxRecDepth 100000 in
set_option maxHeartbeats 400000 in
theorem refZig_any (n : Int) (w : World) (h0 : -9223372036854775808 ≤ n) (h1 : n ≤ 9223372036854775807) :
    Calls Try.prog 95 #[.int .i64 n] w fun e w' => e = .returned (.int .u64 (Lib.zigzag n : Nat)) ∧ w' = w := by
  by_cases h : 0 ≤ n
  · have HZ := hide (Lib.zigzag_nonneg h)
    go_enter Try.func95, Try.ntmps95
    go_wp2
    go_ret
    exact ⟨ret_int (by rw [HZ.out]), rfl⟩
  · have HZ := hide (zigzag_neg' n h)
    go_enter Try.func95, Try.ntmps95
    go_wp2
    go_ret
    exact ⟨ret_int (by rw [HZ.out]), rfl⟩

/-- 128^k modulo 2^64, as read reckons it. -/
def one128 (k : Nat) : Int := ((128 ^ k % 18446744073709551616 : Nat) : Int)

theorem one_step (k : Nat) : (one128 k * 128) % 18446744073709551616 = one128 (k + 1) := by
  unfold one128
  rw [Nat.pow_succ]
  omega

theorem read_step (l : List UInt8) (k : Nat) (hk : k < l.length) (h10 : k < 10) (h9 : k = 9 → ((l.getD k 0).toNat : Int) % 128 ≤ 1) :
    (((val (l.take k) : Nat) : Int) + (((l.getD k 0).toNat : Int) % 128 * one128 k) % 18446744073709551616) % 18446744073709551616 = ((val (l.take (k + 1)) : Nat) : Int) := by
  have hv := val_take_lt l k (by omega)
  have ho : one128 k = ((128 ^ k : Nat) : Int) := by
    unfold one128
    have : 128 ^ k ≤ 128 ^ 9 := Nat.pow_le_pow_right (by decide) (by omega)
    have e9 : 128 ^ 9 = 9223372036854775808 := by decide
    rw [Nat.mod_eq_of_lt (by omega)]
  rw [ho, val_take l k hk]
  have e : (((l.getD k 0).toNat : Int) % 128 * ((128 ^ k : Nat) : Int)) = (((l.getD k 0).toNat % 128 * 128 ^ k : Nat) : Int) := by
    rw [Int.natCast_mul]
    simp
  rw [e]
  have hb : (l.getD k 0).toNat % 128 * 128 ^ k < 9223372036854775809 := by
    by_cases hk9 : k = 9
    · have := h9 hk9
      subst hk9
      have e9 : 128 ^ 9 = 9223372036854775808 := by decide
      rw [e9]
      omega
    · have hp : 128 ^ k ≤ 128 ^ 8 := Nat.pow_le_pow_right (by decide) (by omega)
      have hm : (l.getD k 0).toNat % 128 ≤ 127 := by omega
      have := Nat.mul_le_mul hm hp
      have e8 : 127 * 128 ^ 8 < 9223372036854775809 := by decide
      omega
  have hv2 : val (l.take k) < 9223372036854775808 := by
    have : 128 ^ k ≤ 128 ^ 9 := Nat.pow_le_pow_right (by decide) (by omega)
    have e9 : 128 ^ 9 = 9223372036854775808 := by decide
    omega
  omega

/-- The number of the bytes from the k-th on, of the first eight. -/
def leTail (l : List UInt8) (k : Nat) : Nat := Lib.leNat ((l.take 8).drop k)

theorem leTail_out (l : List UInt8) (k : Nat) (h : l.length ≤ k) : leTail l k = leTail l (k + 1) := by
  unfold leTail
  rw [List.drop_of_length_le (by simp; omega), List.drop_of_length_le (by simp; omega)]

theorem leTail_in (l : List UInt8) (k : Nat) (h : k < l.length) (h8 : k < 8) : leTail l k = (l.getD k 0).toNat + 256 * leTail l (k + 1) := by
  unfold leTail
  have hk : k < (l.take 8).length := by simp; omega
  rw [List.drop_eq_getElem_cons hk, Lib.leNat]
  simp [List.getD, h]

theorem leTail_lt (l : List UInt8) (k : Nat) (h8 : k ≤ 8) : leTail l k < 256 ^ (8 - k) := by
  unfold leTail
  have h := leNat_lt ((l.take 8).drop k)
  have h2 : ((l.take 8).drop k).length ≤ 8 - k := by simp; omega
  have h3 : 256 ^ ((l.take 8).drop k).length ≤ 256 ^ (8 - k) := Nat.pow_le_pow_right (by decide) h2
  omega

theorem fixed_step (l : List UInt8) (k : Nat) (h : k < l.length) (h8 : k < 8) :
    ((((leTail l (k + 1) : Nat) : Int) * 256) % 18446744073709551616 + ((l.getD k 0).toNat : Int)) % 18446744073709551616 = ((leTail l k : Nat) : Int) := by
  have h1 := leTail_in l k h h8
  have h2 := leTail_lt l (k + 1) (by omega)
  have h3 : 256 ^ (8 - (k + 1)) ≤ 256 ^ 7 := Nat.pow_le_pow_right (by decide) (by omega)
  have e7 : 256 ^ 7 = 72057594037927936 := by decide
  have hb := (l.getD k 0).toNat_lt
  omega

end Go.Proofs.Ytanmjihiceibbaa

/- Contracts of the document's answer for layer num, what it puts: groups, Put, PutSigned, Fix. -/
namespace Go.Proofs.Ytanmjihiceibbaa
open Go.RowKit

set_option maxRecDepth 100000 in
set_option maxHeartbeats 1000000 in
theorem refGroups_any (u : Nat) (w : World) (hu : u < 18446744073709551616) :
    Calls Try.prog 62 #[.int .u64 (u : Int)] w fun e w' => ∃ v', e = .returned v' ∧ Own w' w.heap.size v' (Lib.uvarint u) ∧ Below w.heap.size w w' := by
  obtain ⟨i0, hi, hz0, hz1, hz2⟩ := info_parts info8
  have hlen := Lib.uvarint_length64 hu
  have HU := hide hu
  clear hu
  go_enter Try.func62, Try.ntmps62
  go_wp2
  go_loopw [0, 3] (fun vu vb wr => ∃ (y : Nat) (pre : List UInt8), vu = .int .u64 (y : Int) ∧ Hid (y ≤ u ∧ Lib.uvarint u = pre ++ Lib.uvarint y) ∧ Hid (Own wr w.heap.size vb ([] ++ pre)) ∧ Hid (Below w.heap.size w wr))
    (fun vu _ _ => (intOf vu).toNat)
  case atStart => exact ⟨u, [], rfl, ⟨Nat.le_refl _, rfl⟩, Own.nil _ _, Below.refl _ _⟩
  case round =>
    obtain ⟨y, pre, rfl, hys, hown1, hnx⟩ := hrel
    have hpl : pre.length + (Lib.uvarint y).length ≤ 10 := by
      have h2 := congrArg List.length hys.out.2
      rw [List.length_append] at h2
      omega
    have hyp := Lib.uvarint_pos y
    have hsz := hnx.out.size
    have hyb : (y : Int) ≤ 18446744073709551615 := by have := hys.out.1; have := HU.out; omega
    by_cases h128 : 128 ≤ y
    · go_wp2_with (at_builtin; refine wpList_append_own _ rfl _ _ 30 rfl w.heap.size 5 i0 (.int .u8 0) 1 1 Try.underlying30 hi hz0 hz1 hz2 rfl (by decide) _ _ _ rfl (World.ownsRow.alloc hown1.out _) ⟨wr.heap.size, 0, none⟩ 1 1 [Value.int .u8 ((y % 128 + 128 : Nat) : Int)] rfl rfl ?c1 ?c2 ?c3 ?c4 ?c5 ?_)
      case c1 =>
        intro j u hj
        match j, hj with
        | 0, hj => simp at hj; subst hj; simp [Addr.add]
      case c2 => intro u hu; simp at hu; subst hu; rfl
      case c3 => unfold maxLen; simp; omega
      case c4 => simp; omega
      case c5 => simp; omega
      intro v' w1 hown' hgrow _
      have hnx1 : Below w.heap.size w w1 := (hnx.out.alloc (by omega) _).grown hgrow (by simp; omega) (fun k hk => (World.ownsRow.lt hown1.out k hk).1)
      have HO := hide (Own.snoc [] pre (y % 128 + 128) (by omega) hown' (by simp) (by omega))
      have HB := hide hnx1
      clear hown' hnx1 hgrow
      go_wp2
      go_roundw
      case rel => exact ⟨y / 128, pre ++ [(y % 128 + 128).toUInt8], by go_num, ⟨by have := hys.out.1; omega, by rw [hys.out.2, Lib.uvarint_big h128]; simp⟩, HO, HB⟩
      case measure => simp [intOf]; omega
    · have hsm : Lib.uvarint y = [y.toUInt8] := Lib.uvarint_small (by omega)
      have HS := hide hsm
      clear hsm
      go_wp2_with (at_builtin; refine wpList_append_own _ rfl _ _ 30 rfl w.heap.size 5 i0 (.int .u8 0) 1 1 Try.underlying30 hi hz0 hz1 hz2 rfl (by decide) _ _ _ rfl (World.ownsRow.alloc hown1.out _) ⟨wr.heap.size, 0, none⟩ 1 1 [Value.int .u8 (y : Int)] rfl rfl ?c1 ?c2 ?c3 ?c4 ?c5 ?_)
      case c1 =>
        intro j u hj
        match j, hj with
        | 0, hj => simp at hj; subst hj; simp [Addr.add]
      case c2 => intro u hu; simp at hu; subst hu; rfl
      case c3 => unfold maxLen; simp; omega
      case c4 => simp; omega
      case c5 => simp; omega
      intro v' w1 hown' hgrow _
      have hnx1 : Below w.heap.size w w1 := (hnx.out.alloc (by omega) _).grown hgrow (by simp; omega) (fun k hk => (World.ownsRow.lt hown1.out k hk).1)
      have HO := hide (Own.snoc [] pre y (by omega) hown' (by simp) rfl)
      have HB := hide hnx1
      clear hown' hnx1 hgrow
      go_wp2
      go_ret
      refine ⟨v', rfl, ?_, HB.out⟩
      rw [hys.out.2, HS.out]
      exact HO.out

set_option maxRecDepth 100000 in
set_option maxHeartbeats 1000000 in
theorem refPut_any (v : Value) (l : List UInt8) (n : Int) (w : World) (hr : Rd w v l) (hlim : l.length ≤ 100000) :
    Calls Try.prog 27 #[v, .int .i64 n] w fun e w' => ∃ v', e = .returned v' ∧ Own w' w.heap.size v' (putOf l n) ∧ Below w.heap.size w w' := by
  have HR := hide hr
  clear hr
  by_cases h : 0 ≤ n ∧ n < 4611686018427387904
  · obtain ⟨h0, h1⟩ := h
    have HE : Hid (putOf l n = l ++ Lib.uvarint n.toNat) := if_pos ⟨h0, h1⟩
    have HL : Hid ((Lib.uvarint n.toNat).length ≤ 10) := Lib.uvarint_length64 (by omega)
    have HG : Hid (∀ w, Calls Try.prog 62 #[.int .u64 n] w fun e w' => ∃ v', e = .returned v' ∧ Own w' w.heap.size v' (Lib.uvarint n.toNat) ∧ Below w.heap.size w w') := by
      intro w
      have h := refGroups_any n.toNat w (by omega)
      have en : ((n.toNat : Nat) : Int) = n := Int.toNat_of_nonneg h0
      rwa [en] at h
    go_enter Try.func27, Try.ntmps27
    go_wp2_with (at_builtin; refine wpList_append_rd _ rfl _ _ rfl w.heap.size _ [] rfl (Own.nil _ _) _ l rfl HR.out (by simp; omega) (Nat.le_refl _) ?_)
    intro v1 w1 ho1 hb1
    have HO1 := hide ho1
    have HB1 := hide hb1
    clear ho1 hb1
    go_wp2_with fail
    refine (HG.out _).mono ?_
    rintro e w2 ⟨v2, rfl, ho2, hb2⟩
    have hs2 := HB1.out.size
    have HB2 := hide (HB1.out.trans (hb2.mono hs2))
    have HO2 := hide ho2
    have HO12 : Hid (Own w2 w.heap.size v1 l) := HO1.out.below hb2 (Nat.le_refl _)
    have hs3 := hb2.size
    clear ho2 hb2
    go_wp2_with (at_builtin; refine wpList_append_rd _ rfl _ _ rfl w.heap.size _ l rfl HO12.out _ (Lib.uvarint n.toNat) rfl HO2.out.rd (by have := HL.out; omega) (by omega) ?_)
    intro v3 w3 ho3 hb3
    have HO3 := hide ho3
    have HB3 := hide (HB2.out.trans hb3)
    clear ho3 hb3
    go_wp2
    go_ret
    exact ⟨v3, rfl, by rw [HE.out]; exact HO3.out, HB3.out⟩
  · have HE : Hid (putOf l n = l) := if_neg h
    by_cases h0 : n < 0
    all_goals
      go_enter Try.func27, Try.ntmps27
      go_wp2_with (at_builtin; refine wpList_append_rd _ rfl _ _ rfl w.heap.size _ [] rfl (Own.nil _ _) _ l rfl HR.out (by simp; omega) (Nat.le_refl _) ?_)
      intro v1 w1 ho1 hb1
      have HO1 := hide ho1
      have HB1 := hide hb1
      clear ho1 hb1
      go_wp2
      go_ret
      exact ⟨v1, rfl, by rw [HE.out]; exact HO1.out, HB1.out⟩

set_option maxRecDepth 100000 in
set_option maxHeartbeats 1000000 in
theorem refPutSigned_any (v : Value) (l : List UInt8) (n : Int) (w : World) (hr : Rd w v l) (hlim : l.length ≤ 100000) (h0 : -9223372036854775808 ≤ n) (h1 : n ≤ 9223372036854775807) :
    Calls Try.prog 61 #[v, .int .i64 n] w fun e w' => ∃ v', e = .returned v' ∧ Own w' w.heap.size v' (l ++ Lib.uvarint (Lib.zigzag n)) ∧ Below w.heap.size w w' := by
  have HR := hide hr
  clear hr
  have HL : Hid ((Lib.uvarint (Lib.zigzag n)).length ≤ 10) := Lib.uvarint_length64 (Lib.zigzag_lt h0 h1)
  have HG := hide (fun w => refGroups_any (Lib.zigzag n) w (Lib.zigzag_lt h0 h1))
  have HZ := hide (fun w => refZig_any n w h0 h1)
  generalize Lib.zigzag n = z at *
  go_enter Try.func61, Try.ntmps61
  go_wp2_with (at_builtin; refine wpList_append_rd _ rfl _ _ rfl w.heap.size _ [] rfl (Own.nil _ _) _ l rfl HR.out (by simp; omega) (Nat.le_refl _) ?_)
  intro v1 w1 ho1 hb1
  have HO1 := hide ho1
  have HB1 := hide hb1
  clear ho1 hb1
  go_wp2_with fail
  refine (HZ.out _).mono ?_
  rintro e w' ⟨rfl, rfl⟩
  go_wp2_with fail
  refine (HG.out _).mono ?_
  rintro e w2 ⟨v2, rfl, ho2, hb2⟩
  have hs2 := HB1.out.size
  have HB2 := hide (HB1.out.trans (hb2.mono hs2))
  have HO2 := hide ho2
  have HO12 : Hid (Own w2 w.heap.size v1 l) := HO1.out.below hb2 (Nat.le_refl _)
  have hs3 := hb2.size
  clear ho2 hb2
  go_wp2_with (at_builtin; refine wpList_append_rd _ rfl _ _ rfl w.heap.size _ l rfl HO12.out _ (Lib.uvarint z) rfl HO2.out.rd (by have := HL.out; omega) (by omega) ?_)
  intro v3 w3 ho3 hb3
  have HO3 := hide ho3
  have HB3 := hide (HB2.out.trans hb3)
  clear ho3 hb3
  go_wp2
  go_ret
  exact ⟨v3, rfl, HO3.out, HB3.out⟩

set_option maxRecDepth 100000 in
set_option maxHeartbeats 1000000 in
theorem fix_any (v c : Nat) (w : World) (hc : c ≤ 8) (hv : v < 18446744073709551616) :
    Calls Try.prog 28 #[.int .u64 (v : Int), .int .i64 (c : Int)] w fun e w' => ∃ v', e = .returned v' ∧ Own w' w.heap.size v' (Lib.leBytes c v) ∧ Below w.heap.size w w' := by
  obtain ⟨i0, hi, hz0, hz1, hz2⟩ := info_parts info8
  have HV := hide hv
  clear hv
  go_enter Try.func28, Try.ntmps28
  go_wp2
  go_loopw [0, 5, 6] (fun vn vb vi wr => ∃ k : Nat, k ≤ c ∧ vi = .int .i64 (k : Int) ∧ vn = .int .u64 ((v / 256 ^ k : Nat) : Int) ∧ Hid (Own wr w.heap.size vb ([] ++ Lib.leBytes k v)) ∧ Hid (Below w.heap.size w wr))
    (fun _ _ vi _ => c - (intOf vi).toNat)
  case atStart => exact ⟨0, Nat.zero_le _, rfl, by simp, Own.nil _ _, Below.refl _ _⟩
  case round =>
    obtain ⟨k, hk, rfl, rfl, hown1, hnx⟩ := hrel
    have hsz := hnx.out.size
    by_cases hlt : k < c
    · have HQ : Hid (v / 256 ^ (k + 1) = v / 256 ^ k / 256 ∧ Lib.leBytes (k + 1) v = Lib.leBytes k v ++ [(v / 256 ^ k % 256).toUInt8]) := ⟨by rw [Nat.pow_succ, Nat.div_div_eq_div_mul], leBytes_snoc k v⟩
      have hll := Lib.leBytes_length k v
      have HLL := hide hll
      have hl8 : (Lib.leBytes k v).length ≤ 8 := by omega
      have hyb : ((v / 256 ^ k : Nat) : Int) ≤ 18446744073709551615 := by have := Nat.div_le_self v (256 ^ k); have := HV.out; omega
      clear hll
      generalize v / 256 ^ k = y at *
      generalize Lib.leBytes k v = pre at *
      go_wp2_with (at_builtin; refine wpList_append_own _ rfl _ _ 30 rfl w.heap.size 5 i0 (.int .u8 0) 1 1 Try.underlying30 hi hz0 hz1 hz2 rfl (by decide) _ _ _ rfl (World.ownsRow.alloc hown1.out _) ⟨wr.heap.size, 0, none⟩ 1 1 [Value.int .u8 ((y % 256 : Nat) : Int)] rfl rfl ?c1 ?c2 ?c3 ?c4 ?c5 ?_)
      case c1 =>
        intro j u hj
        match j, hj with
        | 0, hj => simp at hj; subst hj; simp [Addr.add]
      case c2 => intro u hu; simp at hu; subst hu; rfl
      case c3 => unfold maxLen; simp; omega
      case c4 => simp; omega
      case c5 => simp; omega
      intro v' w1 hown' hgrow _
      have hnx1 : Below w.heap.size w w1 := (hnx.out.alloc (by omega) _).grown hgrow (by simp; omega) (fun k hk => (World.ownsRow.lt hown1.out k hk).1)
      have HO := hide (Own.snoc [] pre (y % 256) (by omega) hown' (by simp) (by omega))
      have HB := hide hnx1
      clear hown' hnx1 hgrow
      go_wp2
      go_roundw
      case rel => exact ⟨k + 1, by omega, by go_num, by rw [HQ.out.1]; go_num, by rw [HQ.out.2]; exact HO, HB⟩
      case measure => simp [intOf]; omega
    · go_wp2
      go_ret
      have e : k = c := by omega
      exact ⟨_, rfl, by rw [← e]; exact hown1.out, hnx.out⟩

end Go.Proofs.Ytanmjihiceibbaa

/- Contracts of ferrymanref04: cut, find, without, with, pairs. -/
namespace Go.Proofs.Ytanmjihiceibbaa
open Go.RowKit

set_option maxRecDepth 100000 in
theorem refCut_any (n : Int) (w : World) : Calls Try.prog 68 #[.int .i64 n] w fun e w' => e = .returned (.int .i64 (cutZ n)) ∧ w' = w := by
  by_cases h1 : n < -1099511627776
  · have HE : Hid (cutZ n = -1099511627776) := if_pos h1
    go_enter Try.func68, Try.ntmps68
    go_wp2
    go_ret
    exact ⟨ret_i HE.out.symm, rfl⟩
  · by_cases h2 : 1099511627776 < n
    · have HE : Hid (cutZ n = 1099511627776) := by unfold cutZ; rw [if_neg h1, if_pos h2]; exact rfl
      go_enter Try.func68, Try.ntmps68
      go_wp2
      go_ret
      exact ⟨ret_i HE.out.symm, rfl⟩
    · have HE : Hid (cutZ n = n) := by unfold cutZ; rw [if_neg h1, if_neg h2]; exact rfl
      go_enter Try.func68, Try.ntmps68
      go_wp2
      go_ret
      exact ⟨ret_i HE.out.symm, rfl⟩

set_option maxRecDepth 100000 in
theorem refFind_any (v : Value) (l : List Int) (key : Int) (w : World) (hr : RdI w v l) (he : l.length % 2 = 0) (hl : l.length ≤ 1000) :
    Calls Try.prog 106 #[v, .int .i64 key] w fun e w' => e = .returned (.int .i64 (findF key 0 l)) ∧ w' = w := by
  obtain ⟨ao, cap, rfl, hlc, hcm, hn0, hi, hao⟩ := hr
  clear hn0 hlc hcm hi
  go_enter Try.func106, Try.ntmps106
  go_wp2
  go_loop [5] (fun i => ∃ k : Nat, i = .int .i64 k ∧ k ≤ l.length ∧ k % 2 = 0 ∧ Hid (findF key 0 l = findF key k (l.drop k))) (fun i => l.length - (intOf i).toNat)
  case atStart => exact ⟨0, rfl, by omega, rfl, rfl⟩
  case round =>
    obtain ⟨k, rfl, hkl, hk2, hf⟩ := hrel
    by_cases hlt : k < l.length
    · rcases hao with hao | ⟨b, off, rfl, hc⟩
      · subst hao; simp at hlt
      have hck := hc k hlt
      have HS : Hid (findF key k (l.drop k) = if l.getD k 0 = key then (k : Int) else findF key (k + 2) (l.drop (k + 2))) := by
        rw [drop_pair l k (by omega)]
        exact rfl
      clear hc
      generalize l.getD k 0 = y at *
      by_cases hy : y = key
      · have hyb : (y == key) = true := beq_iff_eq.2 hy
        have HE : Hid (findF key 0 l = (k : Int)) := hide' (by rw [hf.out, HS.out, if_pos hy])
        clear hy
        go_wp2
        go_ret
        exact ⟨ret_i HE.out.symm, rfl⟩
      · have hyb : (y == key) = false := beq_eq_false_iff_ne.2 hy
        have HE : Hid (findF key 0 l = findF key (k + 2) (l.drop (k + 2))) := hide' (by rw [hf.out, HS.out, if_neg hy])
        clear hy
        go_wp2
        go_round
        case rel => exact ⟨k + 2, by go_num, by omega, by omega, HE⟩
        case measure => simp [intOf]; omega
    · have HE : Hid (findF key 0 l = -1) := by
        rw [hf.out, List.drop_of_length_le (by omega)]
        exact rfl
      go_wp2
      go_ret
      exact ⟨ret_i HE.out.symm, rfl⟩

set_option maxRecDepth 100000 in
theorem refWithout_any (v : Value) (l : List Int) (key : Int) (w : World) (hr : RdI w v l) (he : l.length % 2 = 0) (hl : l.length ≤ 1000) :
    Calls Try.prog 107 #[v, .int .i64 key] w fun e w' => ∃ v', e = .returned v' ∧ OwnI w' w.heap.size v' (withoutF key l) ∧ Below w.heap.size w w' := by
  have HR := hide' hr
  obtain ⟨ao, cap, rfl, hlc, hcm, hn0, hi, hao⟩ := hr
  clear hn0 hlc hcm hi
  have HAO := hide' hao
  clear hao
  go_enter Try.func107, Try.ntmps107
  go_wp2
  go_loopw [5, 6] (fun o i wr => ∃ (k : Nat) (m : List Int), i = .int .i64 k ∧ k ≤ l.length ∧ k % 2 = 0 ∧ m.length ≤ k ∧ Hid (withoutF key l = m ++ withoutF key (l.drop k)) ∧ Hid (OwnI wr w.heap.size o m) ∧ Hid (Below w.heap.size w wr)) (fun _ i _ => l.length - (intOf i).toNat)
  case atStart => exact ⟨0, [], rfl, by omega, rfl, Nat.zero_le _, rfl, OwnI.nil _ _, Below.refl _ _⟩
  case round =>
    obtain ⟨k, m, rfl, hkl, hk2, hmk, hf, ho, hb⟩ := hrel
    have hsz := hb.out.size
    by_cases hlt : k < l.length
    · rcases HAO.out with hao | ⟨b, off, rfl, hc⟩
      · subst hao; simp at hlt
      have hck : wr.cell? ⟨b, off + k, none⟩ = some (.int .i64 (l.getD k 0)) := by
        rw [hb.out.cell (World.block_lt_of_cell? w ⟨b, off + k, none⟩ (hc k hlt))]; exact hc k hlt
      have HCK1 : Hid (∀ W, Below w.heap.size w W → W.cell? ⟨b, off + (k + 1), none⟩ = some (.int .i64 (l.getD (k + 1) 0))) := fun W hW => by
        rw [hW.cell (World.block_lt_of_cell? w ⟨b, off + (k + 1), none⟩ (hc (k + 1) (by omega)))]; exact hc (k + 1) (by omega)
      have HS : Hid (withoutF key (l.drop k) = (if l.getD k 0 ≠ key then [l.getD k 0, l.getD (k + 1) 0] else []) ++ withoutF key (l.drop (k + 2))) := by
        rw [drop_pair l k (by omega)]
        exact rfl
      clear hc
      generalize l.getD k 0 = y at *
      generalize l.getD (k + 1) 0 = z at *
      by_cases hy : y = key
      · have hyb : (y != key) = false := by rw [bne_eq_false_iff_eq]; exact hy
        have HE : Hid (withoutF key l = m ++ withoutF key (l.drop (k + 2))) := hide' (by rw [hf.out, HS.out, if_neg (fun h => h hy)]; rfl)
        clear hy
        go_wp2
        go_roundw
        case rel => exact ⟨k + 2, m, by go_num, by omega, by omega, by omega, HE, ho, hb⟩
        case measure => simp [intOf]; omega
      · have hyb : (y != key) = true := by rw [bne_iff_ne]; exact hy
        have HE : Hid (withoutF key l = (m ++ [y, z]) ++ withoutF key (l.drop (k + 2))) := hide' (by rw [hf.out, HS.out, if_pos hy]; simp)
        clear hy
        go_wp2_with (at_builtin; refine wpList_append_int _ rfl _ _ rfl w.heap.size _ m rfl ho.out y rfl (by omega) hsz ?_)
        intro v1 w1 ho1 hb1
        have HO1 := hide' ho1
        have HB1 := hide' (hb.out.trans hb1)
        have hs1 := HB1.out.size
        have hck1 := HCK1.out w1 HB1.out
        clear ho1 hb1 hck
        go_wp2_with (at_builtin; refine wpList_append_int _ rfl _ _ rfl w.heap.size _ (m ++ [y]) rfl HO1.out z rfl (by simp; omega) hs1 ?_)
        intro v2 w2 ho2 hb2
        have HO2 := hide' ho2
        have HB2 := hide' (HB1.out.trans hb2)
        clear ho2 hb2 hck1
        go_wp2
        go_roundw
        case rel => exact ⟨k + 2, m ++ [y, z], by go_num, by omega, by omega, by simp; omega, HE, HO2, HB2⟩
        case measure => simp [intOf]; omega
    · have HE : Hid (withoutF key l = m) := hide' (by
        rw [hf.out, List.drop_of_length_le (by omega)]
        simp [withoutF])
      go_wp2
      go_ret
      exact ⟨_, rfl, by rw [HE.out]; exact ho.out, hb.out⟩

set_option maxRecDepth 100000 in
set_option maxHeartbeats 1000000 in
theorem refWith_any (v : Value) (l : List Int) (key n : Int) (w : World) (hr : RdI w v l) (he : l.length % 2 = 0) (hl : l.length ≤ 1000) :
    Calls Try.prog 108 #[v, .int .i64 key, .int .i64 n] w fun e w' => ∃ v', e = .returned v' ∧ OwnI w' w.heap.size v' (withF key n false l) ∧ Below w.heap.size w w' := by
  have HR := hide' hr
  obtain ⟨ao, cap, rfl, hlc, hcm, hn0, hi, hao⟩ := hr
  clear hn0 hlc hcm hi
  have HAO := hide' hao
  clear hao
  go_enter Try.func108, Try.ntmps108
  go_wp2
  go_loopw [7, 8, 9] (fun o dn i wr => ∃ (k : Nat) (m : List Int) (d : Bool), i = .int .i64 k ∧ dn = .bool d ∧ k ≤ l.length ∧ k % 2 = 0 ∧ m.length ≤ 2 * k ∧ Hid (withF key n false l = m ++ withF key n d (l.drop k)) ∧ Hid (OwnI wr w.heap.size o m) ∧ Hid (Below w.heap.size w wr)) (fun _ _ i _ => l.length - (intOf i).toNat)
  case atStart => exact ⟨0, [], false, rfl, rfl, by omega, rfl, by simp, rfl, OwnI.nil _ _, Below.refl _ _⟩
  case round =>
    obtain ⟨k, m, d, rfl, rfl, hkl, hk2, hmk, hf, ho, hb⟩ := hrel
    have hsz := hb.out.size
    by_cases hlt : k < l.length
    · rcases HAO.out with hao | ⟨b, off, rfl, hc⟩
      · subst hao; simp at hlt
      have HCK0 : Hid (∀ W, Below w.heap.size w W → W.cell? ⟨b, off + k, none⟩ = some (.int .i64 (l.getD k 0))) := fun W hW => by
        rw [hW.cell (World.block_lt_of_cell? w ⟨b, off + k, none⟩ (hc k hlt))]; exact hc k hlt
      have HCK1 : Hid (∀ W, Below w.heap.size w W → W.cell? ⟨b, off + (k + 1), none⟩ = some (.int .i64 (l.getD (k + 1) 0))) := fun W hW => by
        rw [hW.cell (World.block_lt_of_cell? w ⟨b, off + (k + 1), none⟩ (hc (k + 1) (by omega)))]; exact hc (k + 1) (by omega)
      have hck := HCK0.out wr hb.out
      have HS := hide' (withF_at key n l k d (by omega))
      clear hc
      generalize l.getD k 0 = y at *
      generalize l.getD (k + 1) 0 = z at *
      have h3 : (d = false ∧ key ≤ y ∧ y = key) ∨ (d = false ∧ key ≤ y ∧ y ≠ key) ∨ (d = false ∧ y < key) ∨ (d = true ∧ y = key) ∨ (d = true ∧ y ≠ key) := by
        cases d
        · by_cases h1 : key ≤ y
          · by_cases h2 : y = key
            · exact .inl ⟨rfl, h1, h2⟩
            · exact .inr (.inl ⟨rfl, h1, h2⟩)
          · exact .inr (.inr (.inl ⟨rfl, by omega⟩))
        · by_cases h2 : y = key
          · exact .inr (.inr (.inr (.inl ⟨rfl, h2⟩)))
          · exact .inr (.inr (.inr (.inr ⟨rfl, h2⟩)))
      rcases h3 with ⟨rfl, h1, h2⟩ | ⟨rfl, h1, h2⟩ | ⟨rfl, h1⟩ | ⟨rfl, h2⟩ | ⟨rfl, h2⟩
      · have hyb : (y != key) = false := by rw [bne_eq_false_iff_eq]; exact h2
        have HE : Hid (withF key n false l = (m ++ [key, n]) ++ withF key n true (l.drop (k + 2))) := hide' (by
          rw [hf.out, HS.out, if_pos ⟨rfl, h1⟩, if_neg (fun h => h h2), decide_eq_true h1]
          simp)
        clear h2
        go_wp2_with (at_builtin; refine wpList_append_int _ rfl _ _ rfl w.heap.size _ m rfl ho.out key rfl (by omega) hsz ?_)
        intro v1 w1 ho1 hb1
        have HO1 := hide' ho1
        have HB1 := hide' (hb.out.trans hb1)
        have hs1 := HB1.out.size
        clear ho1 hb1 hck
        go_wp2_with (at_builtin; refine wpList_append_int _ rfl _ _ rfl w.heap.size _ (m ++ [key]) rfl HO1.out n rfl (by simp; omega) hs1 ?_)
        intro v2 w2 ho2 hb2
        have HO2 := hide' ho2
        have HB2 := hide' (HB1.out.trans hb2)
        have hck2 := HCK0.out w2 HB2.out
        clear ho2 hb2
        go_wp2
        go_roundw
        case rel => exact ⟨k + 2, m ++ [key, n], true, by go_num, rfl, by omega, by omega, by simp; omega, HE, HO2, HB2⟩
        case measure => simp [intOf]; omega
      · have hyb : (y != key) = true := by rw [bne_iff_ne]; exact h2
        have HE : Hid (withF key n false l = (m ++ [key, n, y, z]) ++ withF key n true (l.drop (k + 2))) := hide' (by
          rw [hf.out, HS.out, if_pos ⟨rfl, h1⟩, if_pos h2, decide_eq_true h1]
          simp)
        clear h2
        go_wp2_with (at_builtin; refine wpList_append_int _ rfl _ _ rfl w.heap.size _ m rfl ho.out key rfl (by omega) hsz ?_)
        intro v1 w1 ho1 hb1
        have HO1 := hide' ho1
        have HB1 := hide' (hb.out.trans hb1)
        have hs1 := HB1.out.size
        clear ho1 hb1 hck
        go_wp2_with (at_builtin; refine wpList_append_int _ rfl _ _ rfl w.heap.size _ (m ++ [key]) rfl HO1.out n rfl (by simp; omega) hs1 ?_)
        intro v2 w2 ho2 hb2
        have HO2 := hide' ho2
        have HB2 := hide' (HB1.out.trans hb2)
        have hs2 := HB2.out.size
        have hck2 := HCK0.out w2 HB2.out
        clear ho2 hb2
        go_wp2_with (at_builtin; refine wpList_append_int _ rfl _ _ rfl w.heap.size _ (m ++ [key, n]) rfl HO2.out y rfl (by simp; omega) hs2 ?_)
        intro v3 w3 ho3 hb3
        have HO3 := hide' ho3
        have HB3 := hide' (HB2.out.trans hb3)
        have hs3 := HB3.out.size
        have hck3 := HCK1.out w3 HB3.out
        clear ho3 hb3 hck2
        go_wp2_with (at_builtin; refine wpList_append_int _ rfl _ _ rfl w.heap.size _ (m ++ [key, n, y]) rfl HO3.out z rfl (by simp; omega) hs3 ?_)
        intro v4 w4 ho4 hb4
        have HO4 := hide' ho4
        have HB4 := hide' (HB3.out.trans hb4)
        clear ho4 hb4 hck3
        go_wp2
        go_roundw
        case rel => exact ⟨k + 2, m ++ [key, n, y, z], true, by go_num, rfl, by omega, by omega, by simp; omega, HE, HO4, HB4⟩
        case measure => simp [intOf]; omega
      · have hyb : (y != key) = true := by rw [bne_iff_ne]; omega
        have HE : Hid (withF key n false l = (m ++ [y, z]) ++ withF key n false (l.drop (k + 2))) := hide' (by
          rw [hf.out, HS.out, if_neg (fun h => by omega), if_pos (by omega), decide_eq_false (by omega)]
          simp)
        go_wp2_with (at_builtin; refine wpList_append_int _ rfl _ _ rfl w.heap.size _ m rfl ho.out y rfl (by omega) hsz ?_)
        intro v1 w1 ho1 hb1
        have HO1 := hide' ho1
        have HB1 := hide' (hb.out.trans hb1)
        have hs1 := HB1.out.size
        have hck1 := HCK1.out w1 HB1.out
        clear ho1 hb1 hck
        go_wp2_with (at_builtin; refine wpList_append_int _ rfl _ _ rfl w.heap.size _ (m ++ [y]) rfl HO1.out z rfl (by simp; omega) hs1 ?_)
        intro v2 w2 ho2 hb2
        have HO2 := hide' ho2
        have HB2 := hide' (HB1.out.trans hb2)
        clear ho2 hb2 hck1
        go_wp2
        go_roundw
        case rel => exact ⟨k + 2, m ++ [y, z], false, by go_num, rfl, by omega, by omega, by simp; omega, HE, HO2, HB2⟩
        case measure => simp [intOf]; omega
      · have hyb : (y != key) = false := by rw [bne_eq_false_iff_eq]; exact h2
        have HE : Hid (withF key n false l = m ++ withF key n true (l.drop (k + 2))) := hide' (by
          rw [hf.out, HS.out, if_neg (fun h => by simp at h), if_neg (fun h => h h2)]
          simp)
        clear h2
        go_wp2
        go_roundw
        case rel => exact ⟨k + 2, m, true, by go_num, rfl, by omega, by omega, by omega, HE, ho, hb⟩
        case measure => simp [intOf]; omega
      · have hyb : (y != key) = true := by rw [bne_iff_ne]; exact h2
        have HE : Hid (withF key n false l = (m ++ [y, z]) ++ withF key n true (l.drop (k + 2))) := hide' (by
          rw [hf.out, HS.out, if_neg (fun h => by simp at h), if_pos h2]
          simp)
        clear h2
        go_wp2_with (at_builtin; refine wpList_append_int _ rfl _ _ rfl w.heap.size _ m rfl ho.out y rfl (by omega) hsz ?_)
        intro v1 w1 ho1 hb1
        have HO1 := hide' ho1
        have HB1 := hide' (hb.out.trans hb1)
        have hs1 := HB1.out.size
        have hck1 := HCK1.out w1 HB1.out
        clear ho1 hb1 hck
        go_wp2_with (at_builtin; refine wpList_append_int _ rfl _ _ rfl w.heap.size _ (m ++ [y]) rfl HO1.out z rfl (by simp; omega) hs1 ?_)
        intro v2 w2 ho2 hb2
        have HO2 := hide' ho2
        have HB2 := hide' (HB1.out.trans hb2)
        clear ho2 hb2 hck1
        go_wp2
        go_roundw
        case rel => exact ⟨k + 2, m ++ [y, z], true, by go_num, rfl, by omega, by omega, by simp; omega, HE, HO2, HB2⟩
        case measure => simp [intOf]; omega
    · have ed : l.drop k = [] := List.drop_of_length_le (by omega)
      cases d with
      | true =>
        have HE : Hid (withF key n false l = m) := hide' (by rw [hf.out, ed]; simp [withF])
        clear ed
        go_wp2
        go_ret
        exact ⟨_, rfl, by rw [HE.out]; exact ho.out, hb.out⟩
      | false =>
        have HE : Hid (withF key n false l = m ++ [key, n]) := hide' (by rw [hf.out, ed]; simp [withF])
        clear ed
        go_wp2_with (at_builtin; refine wpList_append_int _ rfl _ _ rfl w.heap.size _ m rfl ho.out key rfl (by omega) hsz ?_)
        intro v1 w1 ho1 hb1
        have HO1 := hide' ho1
        have HB1 := hide' (hb.out.trans hb1)
        have hs1 := HB1.out.size
        clear ho1 hb1
        go_wp2_with (at_builtin; refine wpList_append_int _ rfl _ _ rfl w.heap.size _ (m ++ [key]) rfl HO1.out n rfl (by simp; omega) hs1 ?_)
        intro v2 w2 ho2 hb2
        have HO2 := hide' ho2
        have HB2 := hide' (HB1.out.trans hb2)
        clear ho2 hb2
        go_wp2
        go_ret
        exact ⟨_, rfl, by rw [HE.out]; exact HO2.out, HB2.out⟩

end Go.Proofs.Ytanmjihiceibbaa

/- Contract of ferrymanref04: Fits. -/
namespace Go.Proofs.Ytanmjihiceibbaa
open Go.RowKit

set_option maxRecDepth 100000 in
set_option maxHeartbeats 2000000 in
theorem refFits_any (o : Opn) (w : World) :
    Calls Try.prog 74 #[opV o] w fun e w' => e = .returned (.bool (decide (FitsO o))) ∧ Below w.heap.size w w' := by
  have HBA : Hid (∀ x, Below w.heap.size w (w.alloc x)) := fun x => (Below.refl _ _).alloc (Nat.le_refl _) x
  have HC : Hid (∀ n w, Calls Try.prog 68 #[.int .i64 n] w fun e w' => e = .returned (.int .i64 (cutZ n)) ∧ w' = w) := fun n w => refCut_any n w
  obtain ⟨code, a, b⟩ := o
  have HA := hide' (cutZ_eq a)
  have HB := hide' (cutZ_eq b)
  have HF : Hid (FitsO ⟨code, a, b⟩ ↔ 0 ≤ code ∧ code ≤ 10 ∧ (-1099511627776 ≤ a ∧ a ≤ 1099511627776) ∧ (-1099511627776 ≤ b ∧ b ≤ 1099511627776)) := by
    unfold FitsO
    constructor
    · rintro ⟨h1, h2, h3, h4, h5, h6⟩; exact ⟨h1, h2, ⟨h3, h4⟩, h5, h6⟩
    · rintro ⟨h1, h2, ⟨h3, h4⟩, h5, h6⟩; exact ⟨h1, h2, h3, h4, h5, h6⟩
  show Calls Try.prog 74 #[.agg #[.int .i64 code, .int .i64 a, .int .i64 b]] w _
  by_cases h1 : 0 ≤ code
  · by_cases h2 : code ≤ 10
    · by_cases h3 : a = cutZ a
      · have e3 : (a == cutZ a) = true := beq_iff_eq.2 h3
        by_cases h4 : b = cutZ b
        · have e4 : (b == cutZ b) = true := beq_iff_eq.2 h4
          have HD : Hid (decide (FitsO ⟨code, a, b⟩) = true) := decide_eq_true (HF.out.2 ⟨h1, h2, HA.out.1 h3, HB.out.1 h4⟩)
          clear h3 h4
          go_enter Try.func74, Try.ntmps74
          go_wp2
          go_quiet ((go_at_call 68; exact Calls.quiet_of_same (HC.out _ _)))
          go_wp2
          go_ret
          exact ⟨ret_b HD.out.symm, below_drewN (HBA.out _) _⟩
        · have e4 : (b == cutZ b) = false := beq_eq_false_iff_ne.2 h4
          have HD : Hid (decide (FitsO ⟨code, a, b⟩) = false) := decide_eq_false (fun h => h4 (HB.out.2 (HF.out.1 h).2.2.2))
          clear h3 h4
          go_enter Try.func74, Try.ntmps74
          go_wp2
          go_quiet ((go_at_call 68; exact Calls.quiet_of_same (HC.out _ _)))
          go_wp2
          go_ret
          exact ⟨ret_b HD.out.symm, below_drewN (HBA.out _) _⟩
      · have e3 : (a == cutZ a) = false := beq_eq_false_iff_ne.2 h3
        have HD : Hid (decide (FitsO ⟨code, a, b⟩) = false) := decide_eq_false (fun h => h3 (HA.out.2 (HF.out.1 h).2.2.1))
        clear h3
        go_enter Try.func74, Try.ntmps74
        go_wp2
        go_quiet ((go_at_call 68; exact Calls.quiet_of_same (HC.out _ _)))
        go_wp2
        go_ret
        exact ⟨ret_b HD.out.symm, below_drewN (HBA.out _) _⟩
    · have d2 : decide (code ≤ 10) = false := decide_eq_false h2
      have HD : Hid (decide (FitsO ⟨code, a, b⟩) = false) := decide_eq_false (fun h => h2 (HF.out.1 h).2.1)
      go_enter Try.func74, Try.ntmps74
      go_wp2
      go_quiet ((go_at_call 68; exact Calls.quiet_of_same (HC.out _ _)))
      go_wp2
      go_ret
      exact ⟨ret_b HD.out.symm, below_drewN (HBA.out _) _⟩
  · have d1 : decide (0 ≤ code) = false := decide_eq_false h1
    have HD : Hid (decide (FitsO ⟨code, a, b⟩) = false) := decide_eq_false (fun h => h1 (HF.out.1 h).1)
    go_enter Try.func74, Try.ntmps74
    go_wp2
    go_quiet ((go_at_call 68; exact Calls.quiet_of_same (HC.out _ _)))
    go_wp2
    go_ret
    exact ⟨ret_b HD.out.symm, below_drewN (HBA.out _) _⟩

end Go.Proofs.Ytanmjihiceibbaa

/- Contracts of ferrymanref05: PutOp, GetOp. -/
namespace Go.Proofs.Ytanmjihiceibbaa
open Go.RowKit

/-- What is put: the bytes, and no error; or what was there, and ErrArg. -/
def Putted (w : World) (l : List UInt8) (o : Opn) (e : Ending) (w' : World) : Prop :=
  ∃ v', e = .returned (.tuple #[v', .int .i64 (if FitsO o then 0 else 1)]) ∧ Own w' w.heap.size v' (if FitsO o then l ++ putOpL o else l) ∧ Below w.heap.size w w'

theorem putOf_small {l : List UInt8} {n : Int} (h0 : 0 ≤ n) (h1 : n < 4611686018427387904) : putOf l n = l ++ Lib.uvarint n.toNat := if_pos ⟨h0, h1⟩

theorem uv10 {n : Int} (h : I64 n) : (Lib.uvarint (Lib.zigzag n)).length ≤ 10 := Lib.uvarint_length64 (zig_lt h)

theorem uv10' {n : Nat} (h : n < 4611686018427387904) : (Lib.uvarint n).length ≤ 10 := Lib.uvarint_length64 (by omega)

theorem two_new (w : World) (X Y : Obj) : ((w.alloc X).alloc Y).heap[w.heap.size + 1]? = some Y := by
  have h := heap_alloc_new (w.alloc X) Y
  have e : (w.alloc X).heap.size = w.heap.size + 1 := by simp
  rwa [e] at h

/-- What is got: the operation and how many bytes. -/
def Gotten (w : World) (l : List UInt8) (e : Ending) (w' : World) : Prop :=
  e = .returned (.tuple #[opV (getOpL l).1, .int .i64 ((getOpL l).2 : Nat)]) ∧ Below w.heap.size w w'

end Go.Proofs.Ytanmjihiceibbaa

/- Contracts of ferrymanref06: Fits, Upgrade, has. -/
namespace Go.Proofs.Ytanmjihiceibbaa
open Go.RowKit

/-- A record as a value. -/
def recV (r : Rec) : Value := .agg #[.int .i64 r.idx, .int .i64 r.proc, .int .i64 r.seq, .int .i64 r.op.code, .int .i64 r.op.a, .int .i64 r.op.b, .int .i64 r.resp]

/-- A record's cells. -/
def recC (r : Rec) : Array Value := #[.int .i64 r.idx, .int .i64 r.proc, .int .i64 r.seq, .int .i64 r.op.code, .int .i64 r.op.a, .int .i64 r.op.b, .int .i64 r.resp]

def RecOk (r : Rec) : Prop := I64 r.idx ∧ I64 r.proc ∧ I64 r.seq ∧ OpOk r.op ∧ I64 r.resp

/-- A record's box. -/
def Br (w : World) (b : Nat) (cs : Array Value) : Prop := w.heap[b]? = some (.cells cs 39 (0, 0))

theorem Br.lt {w : World} {b : Nat} {cs : Array Value} (h : Br w b cs) : b < w.heap.size := (Array.getElem?_eq_some_iff.1 h).1

theorem Br.below {w w' : World} {b B : Nat} {cs : Array Value} (h : Br w b cs) (hb : Below B w w') (hB : w.heap.size ≤ B) : Br w' b cs := (hb.block b (by have := h.lt; omega)).trans h

theorem Br.cell {w : World} {b : Nat} {cs : Array Value} (h : Br w b cs) (j : Nat) : w.cell? ⟨b, j, none⟩ = cs[j]? ∧ w.frozen? ⟨b, j, none⟩ = false := ⟨cell_of_row w b j _ _ _ h, frozen_of_row w b j _ _ h⟩

set_option maxRecDepth 100000 in
set_option maxHeartbeats 1000000 in
theorem refFitsR_any (r : Rec) (w : World) :
    Calls Try.prog 42 #[recV r] w fun e w' => e = .returned (.bool (decide (FitsR r))) ∧ Below w.heap.size w w' := by
  obtain ⟨idx, proc, seq, ⟨code, a, b⟩, resp⟩ := r
  have HB0 : Hid (∀ X, Below w.heap.size w (w.alloc X)) := fun X => (Below.refl _ _).alloc (Nat.le_refl _) X
  have S1 : Hid (∀ X, (w.alloc X).heap.size = w.heap.size + 1) := fun X => by simp
  have X1 : Hid (∀ cs, Br (w.alloc (.cells cs 39)) w.heap.size cs) := fun cs => heap_alloc_new w _
  have HF : Hid (∀ W, Calls Try.prog 74 #[.agg #[.int .i64 code, .int .i64 a, .int .i64 b]] W fun e w' => e = .returned (.bool (decide (FitsO ⟨code, a, b⟩))) ∧ Below W.heap.size W w') := fun W => refFits_any ⟨code, a, b⟩ W
  show Calls Try.prog _ #[.agg #[.int .i64 idx, .int .i64 proc, .int .i64 seq, .int .i64 code, .int .i64 a, .int .i64 b, .int .i64 resp]] w _
  obtain ⟨G, hG⟩ : ∃ G : Bool, G = decide (FitsR ⟨idx, proc, seq, ⟨code, a, b⟩, resp⟩) := ⟨_, rfl⟩
  obtain ⟨F, hF⟩ : ∃ F : Bool, F = decide (FitsO ⟨code, a, b⟩) := ⟨_, rfl⟩
  have HD : Hid (G = true ↔ F = true ∧ 0 ≤ idx ∧ idx < 4611686018427387904 ∧ 0 ≤ seq ∧ seq < 4611686018427387904 ∧ 0 ≤ proc ∧ proc ≤ 64 ∧ -1125899906842624 ≤ resp ∧ resp ≤ 1125899906842624) := hide (by
    rw [hG, hF, decide_eq_true_iff, decide_eq_true_iff]
    exact Iff.rfl)
  rw [← hG]
  rw [← hF] at HF
  clear hG hF
  go_enter Try.func42, Try.ntmps42
  go_wp2_with fail
  refine (HF.out _).mono ?_
  rintro e W1 ⟨rfl, hb1⟩
  have HX1 := hide ((X1.out _).below hb1 (Nat.le_refl _))
  have HB1 := hide ((HB0.out _).trans (hb1.mono (by rw [S1.out]; omega)))
  clear hb1 HF X1 HB0 S1
  obtain ⟨q0, -⟩ := HX1.out.cell 0
  obtain ⟨q1, -⟩ := HX1.out.cell 1
  obtain ⟨q2, -⟩ := HX1.out.cell 2
  obtain ⟨q6, -⟩ := HX1.out.cell 6
  have HNo : Hid (¬ (F = true ∧ 0 ≤ idx ∧ idx < 4611686018427387904 ∧ 0 ≤ seq ∧ seq < 4611686018427387904 ∧ 0 ≤ proc ∧ proc ≤ 64 ∧ -1125899906842624 ≤ resp ∧ resp ≤ 1125899906842624) → false = G) := fun h => by
    cases G
    · rfl
    · exact absurd (HD.out.1 rfl) h
  cases F
  case false =>
    go_wp2
    go_ret
    exact ⟨ret_bool (HNo.out (by simp)), HB1.out⟩
  by_cases h1 : 0 ≤ idx
  case neg =>
    go_wp2
    go_ret
    exact ⟨ret_bool (HNo.out (by omega)), HB1.out⟩
  by_cases h2 : idx < 4611686018427387904
  case neg =>
    go_wp2
    go_ret
    exact ⟨ret_bool (HNo.out (by omega)), HB1.out⟩
  by_cases h3 : 0 ≤ seq
  case neg =>
    go_wp2
    go_ret
    exact ⟨ret_bool (HNo.out (by omega)), HB1.out⟩
  by_cases h4 : seq < 4611686018427387904
  case neg =>
    go_wp2
    go_ret
    exact ⟨ret_bool (HNo.out (by omega)), HB1.out⟩
  by_cases h5 : 0 ≤ proc
  case neg =>
    go_wp2
    go_ret
    exact ⟨ret_bool (HNo.out (by omega)), HB1.out⟩
  by_cases h6 : proc ≤ 64
  case neg =>
    go_wp2
    go_ret
    exact ⟨ret_bool (HNo.out (by omega)), HB1.out⟩
  by_cases h7 : -1125899906842624 ≤ resp
  case neg =>
    go_wp2
    go_ret
    exact ⟨ret_bool (HNo.out (by omega)), HB1.out⟩
  by_cases h8 : resp ≤ 1125899906842624
  case neg =>
    go_wp2
    go_ret
    exact ⟨ret_bool ((decide_eq_false (by omega)).trans (HNo.out (by omega))), HB1.out⟩
  have hy := HD.out.2 ⟨rfl, h1, h2, h3, h4, h5, h6, h7, h8⟩
  go_wp2
  go_ret
  exact ⟨ret_bool hy.symm, HB1.out⟩

theorem hasB (v f : Nat) : (decide (hasV v f)) = ((f : Int) == 1 || (f : Int) == 2 || (f : Int) == 4 || ((f : Int) == 3 && decide ((2 : Int) ≤ v)) || ((f : Int) == 5 && (v : Int) == 3)) := by
  rw [Bool.eq_iff_iff]
  simp only [decide_eq_true_iff, Bool.or_eq_true, Bool.and_eq_true, beq_iff_eq]
  unfold hasV
  omega

end Go.Proofs.Ytanmjihiceibbaa

/- Contract of snapshot: Note. -/
namespace Go.Proofs.Ytanmjihiceibbaa
open Go.RowKit

set_option maxRecDepth 100000 in
set_option maxHeartbeats 1000000 in
theorem note1_any (r : Rec) (R : Nat) (e : Ent) (W : World) (hb : Br W R (recC r)) :
    Calls Try.prog 44 #[entV e, .pointer (some ⟨R, 0, none⟩)] W fun x w' => x = .returned (.bool (decide (e.proc = r.proc))) ∧ Below W.heap.size W w' := by
  have HB0 : Hid (∀ X, Below W.heap.size W (W.alloc X)) := fun X => (Below.refl _ _).alloc (Nat.le_refl _) X
  have hlt : R < W.heap.size := (Array.getElem?_eq_some_iff.1 hb).1
  have HC : Hid (∀ X, (W.alloc X).cell? ⟨R, 1, none⟩ = some (.int .i64 r.proc)) := hide (fun X => by
    rw [(HB0.out X).cell (p := ⟨R, 1, none⟩) hlt]
    exact cell_of_row W R 1 _ _ _ hb)
  obtain ⟨ep, es, er⟩ := e
  unfold entV
  simp only
  have hc := HC.out
  generalize r.proc = rp at *
  clear hb HC
  by_cases h : ep = rp
  · have HE : Hid (decide (ep = rp) = true) := decide_eq_true h
    have h' : (ep == rp) = true := beq_iff_eq.2 h
    rw [HE.out]
    clear HE h
    go_enter Try.func44, Try.ntmps44
    go_wp2
    go_ret
    exact ⟨rfl, HB0.out _⟩
  · have HE : Hid (decide (ep = rp) = false) := decide_eq_false h
    have h' : (ep == rp) = false := beq_eq_false_iff_ne.2 h
    rw [HE.out]
    clear HE h
    go_enter Try.func44, Try.ntmps44
    go_wp2
    go_ret
    exact ⟨rfl, HB0.out _⟩

set_option maxRecDepth 100000 in
set_option maxHeartbeats 1000000 in
theorem note2_any (r : Rec) (R : Nat) (e : Ent) (W : World) (hb : Br W R (recC r)) :
    Calls Try.prog 45 #[entV e, .pointer (some ⟨R, 0, none⟩)] W fun x w' => x = .returned (.bool (decide (r.proc < e.proc))) ∧ Below W.heap.size W w' := by
  have HB0 : Hid (∀ X, Below W.heap.size W (W.alloc X)) := fun X => (Below.refl _ _).alloc (Nat.le_refl _) X
  have hlt : R < W.heap.size := (Array.getElem?_eq_some_iff.1 hb).1
  have HC : Hid (∀ X, (W.alloc X).cell? ⟨R, 1, none⟩ = some (.int .i64 r.proc)) := hide (fun X => by
    rw [(HB0.out X).cell (p := ⟨R, 1, none⟩) hlt]
    exact cell_of_row W R 1 _ _ _ hb)
  obtain ⟨ep, es, er⟩ := e
  unfold entV
  simp only
  have hc := HC.out
  generalize r.proc = rp at *
  clear hb HC
  by_cases h : rp < ep
  · have HE : Hid (decide (rp < ep) = true) := decide_eq_true h
    rw [HE.out]
    clear HE
    go_enter Try.func45, Try.ntmps45
    go_wp2
    go_ret
    exact ⟨rfl, HB0.out _⟩
  · have HE : Hid (decide (rp < ep) = false) := decide_eq_false h
    rw [HE.out]
    clear HE
    go_enter Try.func45, Try.ntmps45
    go_wp2
    go_ret
    exact ⟨rfl, HB0.out _⟩

theorem placeE_any {p : Int} {t : List Ent} {k : Int} (h : FoundE (fun e => decide (p < e.proc)) t k) : (k < 0 ∧ firstG p t = t.length) ∨ (0 ≤ k ∧ k = (firstG p t : Nat)) := by
  rcases h with ⟨rfl, h⟩ | ⟨i, rfl, hi, h1, h2⟩
  · exact .inl ⟨by omega, firstG_all (fun j hj => of_decide_eq_false (h j hj))⟩
  · refine .inr ⟨by omega, ?_⟩
    rw [firstG_at hi (fun j hj => of_decide_eq_false (h1 j hj)) (of_decide_eq_true h2)]

theorem butP_mem {p : Int} {t : List Ent} {P : Ent → Prop} (h : ∀ e ∈ t, P e) : ∀ e ∈ butP p t, P e := fun e he => h e (List.mem_filter.1 he).1

set_option maxRecDepth 100000 in
set_option maxHeartbeats 4000000 in
theorem noteN_any (v : Value) (t : List Ent) (r : Rec) (w : World) (hr : RdE w v t) (hok : RecOk r) (hlim : t.length ≤ 2000) :
    Calls Try.prog 17 #[v, recV r] w fun e w' => ∃ v', e = .returned v' ∧ OwnE w' w.heap.size v' (noteL t ⟨r.proc, r.seq, r.resp⟩) ∧ Below w.heap.size w w' := by
  have hTI : ∀ e ∈ t, EntI e := hr.choose_spec.choose_spec.2.2.2.2.1
  have HTI := hide hTI
  have HX : Hid (Br (w.alloc (.cells (recC r) 39)) w.heap.size (recC r)) := hide (heap_alloc_new w _)
  have HB0 : Hid (Below w.heap.size w (w.alloc (.cells (recC r) 39))) := hide ((Below.refl _ _).alloc (Nat.le_refl _) _)
  have hsz : (w.alloc (.cells (recC r) 39)).heap.size = w.heap.size + 1 := by simp
  have HR := hide (hr.below HB0.out (Nat.le_refl _))
  have HEI : Hid (EntI ⟨r.proc, r.seq, r.resp⟩) := hide ⟨hok.2.1, hok.2.2.1, hok.2.2.2.2⟩
  have eg1 : ∀ args W, (callFunc 44 args).run Try.prog W = .ok (.enter 44 args) W := enters_of Try.func44 (by kernel_rfl) rfl
  have eg2 : ∀ args W, (callFunc 45 args).run Try.prog W = .ok (.enter 45 args) W := enters_of Try.func45 (by kernel_rfl) rfl
  have HEG1 := hide eg1
  have HEG2 := hide eg2
  have HNI : Hid (noteL t ⟨r.proc, r.seq, r.resp⟩ = (butP r.proc t).take (firstG r.proc (butP r.proc t)) ++ (⟨r.proc, r.seq, r.resp⟩ :: (butP r.proc t).drop (firstG r.proc (butP r.proc t)))) := hide (noteL_ins ⟨r.proc, r.seq, r.resp⟩ t)
  have HBT : Hid (t.filter (fun e => !decide (e.proc = r.proc)) = butP r.proc t) := hide (by unfold butP; simp)
  have HN1 := hide (fun W e h => note1_any r w.heap.size e W h)
  have HN2 := hide (fun W e h => note2_any r w.heap.size e W h)
  have HXB : Hid (∀ W, Below (w.heap.size + 1) (w.alloc (.cells (recC r) 39)) W → Br W w.heap.size (recC r)) := hide (fun W h => (h.block w.heap.size (by omega)).trans HX.out)
  have hmf : ∀ (fn : Fn) (first cap : Array Value) (w : World), (Instr.makeFunc fn first cap).run Try.prog w = .ok (.func fn first cap) w := fun _ _ _ _ => rfl
  have HCL := hide (fun W v l h h2 => cloneE_any v l W h h2)
  clear eg1 eg2 hTI hok hr
  unfold recV recC at *
  go_enter Try.func17, Try.ntmps17
  go_wp2_with fail
  refine (HCL.out _ _ t HR.out (by omega)).mono ?_
  rintro x W1 ⟨v1, rfl, ho1, hb1⟩
  rw [hsz] at ho1 hb1
  have HO1 := hide ho1
  have HB1 := hide hb1
  clear ho1 hb1
  have HDE := hide (deleteFuncE_any 44 w.heap.size (fun e => decide (e.proc = r.proc)) v1 t (w.heap.size + 1) W1 HO1.out HTI.out (by have := HB1.out.size; omega) (by omega) HEG1.out (fun W e h => HN1.out W e (HXB.out W (HB1.out.trans h))))
  go_wp2_with fail
  refine HDE.out.mono ?_
  rintro x W2 ⟨v2, rfl, ho2, hb2⟩
  rw [HBT.out] at ho2
  have HO2 := hide ho2
  have HB2 := hide (HB1.out.trans hb2)
  have HT2 := hide (butP_mem (p := r.proc) HTI.out)
  have hl2 : (butP r.proc t).length ≤ 2000 := Nat.le_trans (butP_len _ _) hlim
  clear ho2 hb2 HDE HO1 HB1 HR HTI HBT
  obtain ⟨bt, hbt⟩ : ∃ bt, bt = butP r.proc t := ⟨_, rfl⟩
  rw [← hbt] at HO2 HT2 HNI hl2
  clear hbt
  have HIX := hide (indexFuncE_any 45 w.heap.size (fun e => decide (r.proc < e.proc)) v2 bt W2 (HO2.out.rd HT2.out) HEG2.out (fun W e h => HN2.out W e (HXB.out W (HB2.out.trans (h.mono (by have := HB2.out.size; omega))))))
  obtain ⟨va, vc, hv2⟩ := HO2.out.shape
  subst hv2
  go_wp2_with fail
  refine HIX.out.mono ?_
  rintro x W3 ⟨k, rfl, hf, hb3⟩
  have HO3 := hide (HO2.out.below hb3 (Nat.le_refl _))
  have HB3 := hide (HB2.out.trans (hb3.mono (by have := HB2.out.size; omega)))
  have HX3 := hide (HXB.out W3 HB3.out)
  have HBW := hide (HB0.out.trans (HB3.out.mono (by omega)))
  have hs3 : w.heap.size + 1 ≤ W3.heap.size := by have := HB3.out.size; omega
  clear hb3 HIX HO2 HB2
  obtain ⟨q1, f1⟩ := HX3.out.cell 1
  obtain ⟨q2, f2⟩ := HX3.out.cell 2
  obtain ⟨q4, f4⟩ := HX3.out.cell 6
  have hfl := firstG_le r.proc bt
  have HIN := hide (fun I hI N hN => insertE_any (.slice va bt.length vc) bt (w.heap.size + 1) W3 HO3.out hs3 (by omega) (firstG r.proc bt) hfl ⟨r.proc, r.seq, r.resp⟩ HEI.out I hI N hN)
  rw [← HNI.out] at HIN
  unfold entC at HIN
  have hbl : (bt.length : Int) ≤ 2000 := by omega
  rcases placeE_any hf with ⟨hk, hE⟩ | ⟨hk, hE⟩
  · clear hf
    have HE2 := hide hE
    clear hE hfl hl2 hlim
    go_wp2_with fail
    refine (HIN.out _ (by rw [HE2.out]) _ rfl).mono ?_
    rintro x W4 ⟨v4, rfl, ho4, hb4⟩
    have HO4 := hide (ho4.mono (B' := w.heap.size) (by omega))
    have HB4 := hide (HBW.out.trans (hb4.mono (by omega)))
    clear ho4 hb4
    go_wp2
    go_ret
    exact ⟨_, rfl, HO4.out, HB4.out⟩
  · clear hf
    have hkn : ¬ k < 0 := by omega
    have HE2 := hide hE
    clear hE hfl hl2 hlim
    go_wp2_with fail
    refine (HIN.out _ HE2.out _ rfl).mono ?_
    rintro x W4 ⟨v4, rfl, ho4, hb4⟩
    have HO4 := hide (ho4.mono (B' := w.heap.size) (by omega))
    have HB4 := hide (HBW.out.trans (hb4.mono (by omega)))
    clear ho4 hb4
    go_wp2
    go_ret
    exact ⟨_, rfl, HO4.out, HB4.out⟩

end Go.Proofs.Ytanmjihiceibbaa

/- Contract of ferrymanref04.pairs. -/
namespace Go.Proofs.Ytanmjihiceibbaa
open Go.RowKit

set_option maxRecDepth 100000 in
set_option maxHeartbeats 2000000 in
theorem refPairs_any (v : Value) (l : List Int) (least : Int) (w : World) (hr : RdI w v l) :
    Calls Try.prog 67 #[v, .int .i64 least] w fun e w' => e = .returned (.bool (decide (PairsOk least l))) ∧ Below w.heap.size w w' := by
  obtain ⟨ao, cap, rfl, hlc, hcm, hn0, hi, hao⟩ := hr
  clear hn0 hi
  have hml : (l.length : Int) ≤ 9223372036854775807 := by unfold maxLen at hcm; omega
  have HAO := hide' hao
  clear hao hlc hcm
  by_cases h2 : l.length % 2 = 0
  · have h2' : ((l.length : Int).tmod 2 != 0) = false := by
      rw [bne_eq_false_iff_eq, Int.tmod_eq_emod_of_nonneg (by omega)]
      omega
    by_cases h128 : (l.length : Int) ≤ 128
    · go_enter Try.func67, Try.ntmps67
      go_wp2
      go_loopw [5] (fun i wr => ∃ k : Nat, i = .int .i64 k ∧ k ≤ l.length ∧ k % 2 = 0 ∧ Hid (∀ j, j < k → j % 2 = 0 → PairAt least l j) ∧ Hid (Below w.heap.size w wr)) (fun i _ => l.length - (intOf i).toNat)
      case atStart => exact ⟨0, rfl, by omega, rfl, fun j hj => by omega, Below.refl _ _⟩
      case round =>
        obtain ⟨k, rfl, hkl, hk2, hall, hb⟩ := hrel
        by_cases hlt : k < l.length
        · rcases HAO.out with hao | ⟨b, off, rfl, hc⟩
          · subst hao; simp at hlt
          have hcc : ∀ j, j < l.length → wr.cell? ⟨b, off + j, none⟩ = some (.int .i64 (l.getD j 0)) := fun j hj => by
            rw [hb.out.cell (World.block_lt_of_cell? w ⟨b, off + j, none⟩ (hc j hj))]; exact hc j hj
          have hc0 := hcc k hlt
          have hc1 := hcc (k + 1) (by omega)
          have hc2 := hcc (k - 2) (by omega)
          have hbk : (k : Int) < (l.length : Int) := by omega
          have hbk1 : (k : Int) + 1 < (l.length : Int) := by omega
          have HP : Hid (PairAt least l k ↔ (0 ≤ l.getD k 0 ∧ l.getD k 0 ≤ 255 ∧ (0 < k → l.getD (k - 2) 0 < l.getD k 0) ∧ least ≤ l.getD (k + 1) 0 ∧ l.getD (k + 1) 0 ≤ 1099511627776)) := Iff.rfl
          clear hc hcc
          generalize l.getD k 0 = y at *
          generalize l.getD (k + 1) 0 = z at *
          generalize l.getD (k - 2) 0 = x at *
          have HBd : Hid (Below w.heap.size w wr.drew) := hb.out.drew
          go_upto_region 6 with fail
          go_cut [65] (fun c wc => c = .bool (decide (¬ PairAt least l k)) ∧ Hid (Below w.heap.size w wc))
          case first =>
            by_cases g1 : y < 0
            · go_quiet (fail)
              go_wp2
              go_meet
              refine ⟨congrArg Value.bool ?_, below_drewN hb.out _⟩
              exact (decide_eq_true (p := ¬ PairAt least l k) (fun h => by have := HP.out.1 h; omega)).symm
            have d1 : decide (y < 0) = false := decide_eq_false g1
            by_cases g2 : 255 < y
            · go_quiet (fail)
              go_wp2
              go_meet
              refine ⟨congrArg Value.bool ?_, below_drewN hb.out _⟩
              exact (decide_eq_true (p := ¬ PairAt least l k) (fun h => by have := HP.out.1 h; omega)).symm
            have d2 : decide (255 < y) = false := decide_eq_false g2
            by_cases g3 : 0 < k
            · have g3' : (0 : Int) < (k : Int) := by omega
              have e2 : (k : Int) - 2 = ((k - 2 : Nat) : Int) := by omega
              by_cases g4 : y ≤ x
              · go_quiet (fail)
                go_wp2
                go_meet
                refine ⟨congrArg Value.bool ?_, below_drewN hb.out _⟩
                exact (decide_eq_true (p := ¬ PairAt least l k) (fun h => by have := HP.out.1 h; omega)).symm
              have d4 : decide (y ≤ x) = false := decide_eq_false g4
              by_cases g5 : z < least
              · go_quiet (fail)
                go_wp2
                go_meet
                refine ⟨congrArg Value.bool ?_, below_drewN hb.out _⟩
                exact (decide_eq_true (p := ¬ PairAt least l k) (fun h => by have := HP.out.1 h; omega)).symm
              have d5 : decide (z < least) = false := decide_eq_false g5
              by_cases g6 : 1099511627776 < z
              · go_quiet (fail)
                go_wp2
                go_meet
                refine ⟨congrArg Value.bool ?_, below_drewN hb.out _⟩
                exact (decide_eq_true (p := ¬ PairAt least l k) (fun h => by have := HP.out.1 h; omega)).symm
              have d6 : decide (1099511627776 < z) = false := decide_eq_false g6
              go_quiet (fail)
              go_wp2
              go_meet
              refine ⟨congrArg Value.bool ?_, below_drewN hb.out _⟩
              exact (decide_eq_false (p := ¬ PairAt least l k) (fun h => h (HP.out.2 (by omega)))).symm
            · have d3 : decide ((0 : Int) < (k : Int)) = false := decide_eq_false (by omega)
              by_cases g5 : z < least
              · go_quiet (fail)
                go_wp2
                go_meet
                refine ⟨congrArg Value.bool ?_, below_drewN hb.out _⟩
                exact (decide_eq_true (p := ¬ PairAt least l k) (fun h => by have := HP.out.1 h; omega)).symm
              have d5 : decide (z < least) = false := decide_eq_false g5
              by_cases g6 : 1099511627776 < z
              · go_quiet (fail)
                go_wp2
                go_meet
                refine ⟨congrArg Value.bool ?_, below_drewN hb.out _⟩
                exact (decide_eq_true (p := ¬ PairAt least l k) (fun h => by have := HP.out.1 h; omega)).symm
              have d6 : decide (1099511627776 < z) = false := decide_eq_false g6
              go_quiet (fail)
              go_wp2
              go_meet
              refine ⟨congrArg Value.bool ?_, below_drewN hb.out _⟩
              exact (decide_eq_false (p := ¬ PairAt least l k) (fun h => h (HP.out.2 (by omega)))).symm
          case rest =>
          obtain ⟨rfl, HB6⟩ := hcut
          by_cases hP : PairAt least l k
          · have hd : decide (¬ PairAt least l k) = false := decide_eq_false (fun h => h hP)
            have HPP := hide' hP
            rw [hd]
            clear hP hd HP hc0 hc1 hc2
            go_wp2
            go_roundw
            case rel =>
              refine ⟨k + 2, by go_num, by omega, by omega, fun j hj h2j => ?_, HB6⟩
              by_cases e : j = k
              · rw [e]; exact HPP.out
              · exact hall.out j (by omega) h2j
            case measure => simp [intOf]; omega
          · have hd : decide (¬ PairAt least l k) = true := decide_eq_true hP
            have HPP := hide' hP
            rw [hd]
            clear hP hd HP hc0 hc1 hc2
            go_wp2
            go_ret
            exact ⟨ret_b (decide_eq_false (p := PairsOk least l) (fun h => HPP.out (h.2.2 k hlt hk2))).symm, HB6.out⟩
        · go_wp2
          go_ret
          exact ⟨ret_b (decide_eq_true (p := PairsOk least l) ⟨h2, by omega, fun j hj => hall.out j (by omega)⟩).symm, hb.out⟩
    · go_enter Try.func67, Try.ntmps67
      go_wp2
      go_ret
      exact ⟨ret_b (decide_eq_false (p := PairsOk least l) (fun h => by have := h.2.1; omega)).symm, Below.refl _ _⟩
  · have h2' : ((l.length : Int).tmod 2 != 0) = true := by
      rw [bne_iff_ne, Ne, Int.tmod_eq_emod_of_nonneg (by omega)]
      omega
    go_enter Try.func67, Try.ntmps67
    go_wp2
    go_ret
    exact ⟨ret_b (decide_eq_false (p := PairsOk least l) (fun h => h2 h.1)).symm, Below.refl _ _⟩

end Go.Proofs.Ytanmjihiceibbaa

/- Contracts of ferrymanref04: May. -/
namespace Go.Proofs.Ytanmjihiceibbaa
open Go.RowKit

set_option maxRecDepth 100000 in
set_option maxHeartbeats 2000000 in
theorem refMay_any (v : Value) (s : St) (w : World) (hs : StV w v s) :
    Calls Try.prog 33 #[v] w fun e w' => e = .returned (.bool (decide (MayS s))) ∧ Below w.heap.size w w' := by
  obtain ⟨vl, rfl, hr, _, _⟩ := hs
  have HR := hide' hr
  have HP := hide' (fun w1 least (h : RdI w1 vl s.L) => refPairs_any vl s.L least w1 h)
  have HBA : Hid (∀ o, Below w.heap.size w (w.alloc o)) := fun o => (Below.refl _ _).alloc (Nat.le_refl _) o
  obtain ⟨ao, cap, rfl, hlc, hcm, hn0, hi, hao⟩ := hr
  have hml : (s.L.length : Int) ≤ 9223372036854775807 := by unfold maxLen at hcm; omega
  have HAO := hide' hao
  have HI := hide' hi
  clear hao hlc hcm hi hn0
  have HM := hide' (may_bad1 (s := s))
  have HN := hide' (may_nums (s := s))
  obtain ⟨kind, l, shut, g⟩ := s
  simp only at *
  by_cases hbad : g < 0 ∨ 2 < g ∨ (shut = false ∧ g ≠ 0) ∨ kind < 0 ∨ 6 ≤ kind
  · have HF : Hid (decide (MayS ⟨kind, l, shut, g⟩) = false) := decide_eq_false (HM.out hbad)
    have hc : (g < 0) ∨ (0 ≤ g ∧ 2 < g) ∨ (0 ≤ g ∧ g ≤ 2 ∧ shut = false ∧ (g != 0) = true) ∨ (0 ≤ g ∧ g ≤ 2 ∧ (shut = false ∧ g = 0) ∧ kind < 0) ∨ (0 ≤ g ∧ g ≤ 2 ∧ shut = true ∧ kind < 0) ∨ (0 ≤ g ∧ g ≤ 2 ∧ (shut = false ∧ g = 0) ∧ 0 ≤ kind ∧ 6 ≤ kind) ∨ (0 ≤ g ∧ g ≤ 2 ∧ shut = true ∧ 0 ≤ kind ∧ 6 ≤ kind) := by
      cases shut <;> simp at hbad ⊢ <;> omega
    clear hbad HM HN HP HAO HR HI
    rcases hc with h | ⟨h1, h2⟩ | ⟨h1, h2, rfl, h3⟩ | ⟨h1, h2, ⟨rfl, rfl⟩, h3⟩ | ⟨h1, h2, rfl, h3⟩ | ⟨h1, h2, ⟨rfl, rfl⟩, h3, h4⟩ | ⟨h1, h2, rfl, h3, h4⟩
    all_goals
      go_enter Try.func33, Try.ntmps33
      go_wp2
      go_ret
      exact ⟨ret_b HF.out.symm, HBA.out _⟩
  · have HF : Hid (MayS ⟨kind, l, shut, g⟩ ↔ NumsOk kind l) := HN.out (by omega) (by omega) (fun h => by
      cases shut
      · simp at hbad; omega
      · simp at h) (by omega) (by omega)
    have hg : 0 ≤ g ∧ g ≤ 2 ∧ 0 ≤ kind ∧ kind < 6 := by omega
    have hc : (shut = false ∧ g = 0) ∨ shut = true := by
      cases shut <;> simp at hbad ⊢ <;> omega
    obtain ⟨h1, h2, h3, h4⟩ := hg
    clear hbad HM HN
    by_cases k4 : kind = 4
    · subst k4
      have HD : Hid (decide (MayS ⟨4, l, shut, g⟩) = decide (PairsOk (-1099511627776) l)) := by
        rw [decide_eq_decide]
        exact HF.out
      rcases hc with ⟨rfl, rfl⟩ | rfl
      all_goals
        go_enter Try.func33, Try.ntmps33
        go_wp2_with fail
        refine (HP.out _ _ (HR.out.below (HBA.out _) (Nat.le_refl _))).mono ?_
        rintro e w2 ⟨rfl, hb2⟩
        have HB2 := hide' ((HBA.out _).trans (hb2.mono (HBA.out _).size))
        clear hb2
        go_wp2
        go_ret
        exact ⟨ret_b HD.out.symm, HB2.out⟩
    · by_cases k5 : kind = 5
      · subst k5
        have HD : Hid (decide (MayS ⟨5, l, shut, g⟩) = decide (PairsOk 0 l)) := by
          rw [decide_eq_decide]
          exact HF.out
        rcases hc with ⟨rfl, rfl⟩ | rfl
        all_goals
          go_enter Try.func33, Try.ntmps33
          go_wp2_with fail
          refine (HP.out _ _ (HR.out.below (HBA.out _) (Nat.le_refl _))).mono ?_
          rintro e w2 ⟨rfl, hb2⟩
          have HB2 := hide' ((HBA.out _).trans (hb2.mono (HBA.out _).size))
          clear hb2
          go_wp2
          go_ret
          exact ⟨ret_b HD.out.symm, HB2.out⟩
      · have HFN : Hid (MayS ⟨kind, l, shut, g⟩ ↔ (l.length ≤ 64 ∧ (kind ≤ 1 → l.length = 1) ∧ InBounds l)) := by
          have h := HF.out
          unfold NumsOk at h
          rwa [if_neg k4, if_neg k5] at h
        have e4 : (kind == 4) = false := beq_eq_false_iff_ne.2 k4
        have e5 : (kind == 5) = false := beq_eq_false_iff_ne.2 k5
        clear k4 k5 HF HP
        by_cases hlen : (64 : Int) < l.length
        · have HD : Hid (decide (MayS ⟨kind, l, shut, g⟩) = false) := decide_eq_false (fun h => by have := (HFN.out.1 h).1; omega)
          rcases hc with ⟨rfl, rfl⟩ | rfl
          all_goals
            go_enter Try.func33, Try.ntmps33
            go_wp2
            go_ret
            exact ⟨ret_b HD.out.symm, HBA.out _⟩
        · by_cases hone : l.length = 1 ∨ 1 < kind
          · have HC : Hid (∀ n w, Calls Try.prog 68 #[.int .i64 n] w fun e w' => e = .returned (.int .i64 (cutZ n)) ∧ w' = w) := fun n w => refCut_any n w
            have h1c : ((l.length : Int) != 1) = false ∨ (((l.length : Int) != 1) = true ∧ 1 < kind) := by
              by_cases e : l.length = 1
              · left
                rw [bne_eq_false_iff_eq]
                omega
              · right
                refine ⟨?_, by omega⟩
                rw [bne_iff_ne]
                omega
            have HON := hide' hone
            clear hone
            rcases h1c with h1c | ⟨h1c, h1d⟩
            all_goals
              rcases hc with ⟨rfl, rfl⟩ | rfl
              all_goals
                go_enter Try.func33, Try.ntmps33
                go_wp2
                go_loopw [3] (fun i wr => ∃ k : Nat, i = .int .i64 k ∧ k ≤ l.length ∧ Hid (∀ j, j < k → -1099511627776 ≤ l.getD j 0 ∧ l.getD j 0 ≤ 1099511627776) ∧ Hid (wr.cell? ⟨w.heap.size, 1, none⟩ = some (.slice ao l.length cap)) ∧ Hid (Below w.heap.size w wr)) (fun i _ => l.length - (intOf i).toNat)
                case atStart => exact ⟨0, rfl, by omega, fun j hj => by omega, cell_of_row _ w.heap.size 1 _ _ (0, 0) (heap_alloc_new w _), HBA.out _⟩
                case round =>
                  obtain ⟨k, rfl, hkl, hall, hbox, hb⟩ := hrel
                  have hbx := hbox.out
                  by_cases hlt : k < l.length
                  · rcases HAO.out with hao | ⟨b, off, rfl, hc⟩
                    · subst hao; simp at hlt
                    have hc0 : wr.cell? ⟨b, off + k, none⟩ = some (.int .i64 (l.getD k 0)) := by
                      rw [hb.out.cell (World.block_lt_of_cell? w ⟨b, off + k, none⟩ (hc k hlt))]; exact hc k hlt
                    have HCE := hide' (cutZ_eq (l.getD k 0))
                    obtain ⟨y, hy⟩ : ∃ y, y = l.getD k 0 := ⟨_, rfl⟩
                    rw [← hy] at hc0 HCE
                    have HY := hide' hy
                    clear hc hy
                    by_cases hq : y = cutZ y
                    · have hqb : (y != cutZ y) = false := by rw [bne_eq_false_iff_eq]; exact hq
                      have HQ := hide' (HCE.out.1 hq)
                      clear hq
                      go_wp2
                      go_quiet ((go_at_call 68; exact Calls.quiet_of_same (HC.out _ _)))
                      go_wp2
                      go_roundw
                      case rel =>
                        refine ⟨k + 1, by go_num, by omega, fun j hj => ?_, hbx, below_drewN hb.out _⟩
                        by_cases e : j = k
                        · rw [e, ← HY.out]; exact HQ.out
                        · exact hall.out j (by omega)
                      case measure => simp [intOf]; omega
                    · have hqb : (y != cutZ y) = true := by rw [bne_iff_ne]; exact hq
                      have HQ : Hid (¬ (-1099511627776 ≤ y ∧ y ≤ 1099511627776)) := fun h => hq (HCE.out.2 h)
                      clear hq
                      go_wp2
                      go_quiet ((go_at_call 68; exact Calls.quiet_of_same (HC.out _ _)))
                      go_wp2
                      go_ret
                      refine ⟨ret_b (decide_eq_false (fun h => HQ.out ?_)).symm, below_drewN hb.out _⟩
                      have := (HFN.out.1 h).2.2 k hlt
                      rwa [← HY.out] at this
                  · go_wp2
                    go_ret
                    refine ⟨ret_b (decide_eq_true (HFN.out.2 ⟨by omega, fun h => ?_, fun j hj => hall.out j (by omega)⟩)).symm, hb.out⟩
                    rcases HON.out with h' | h'
                    · exact h'
                    · omega
          · have hk1 : kind ≤ 1 := by omega
            have h1c : ((l.length : Int) != 1) = true := by rw [bne_iff_ne]; omega
            have HD : Hid (decide (MayS ⟨kind, l, shut, g⟩) = false) := decide_eq_false (fun h => by have := (HFN.out.1 h).2.1; omega)
            clear hone
            rcases hc with ⟨rfl, rfl⟩ | rfl
            all_goals
              go_enter Try.func33, Try.ntmps33
              go_wp2
              go_ret
              exact ⟨ret_b HD.out.symm, HBA.out _⟩

end Go.Proofs.Ytanmjihiceibbaa

/- Contracts of ferrymanref04: Fits, Same. -/
namespace Go.Proofs.Ytanmjihiceibbaa
open Go.RowKit

set_option maxRecDepth 100000 in
set_option maxHeartbeats 2000000 in
theorem refSameS_any (va : Value) (a : St) (vb : Value) (b : St) (w : World) (ha : StV w va a) (hb : StV w vb b) :
    Calls Try.prog 37 #[va, vb] w fun e w' => e = .returned (.bool (decide (SameS a b))) ∧ Below w.heap.size w w' := by
  obtain ⟨vla, rfl, hra, _, _⟩ := ha
  obtain ⟨vlb, rfl, hrb, _, _⟩ := hb
  have HBA : Hid (∀ x y, Below w.heap.size w ((w.alloc x).alloc y)) := fun x y => ((Below.refl _ _).alloc (Nat.le_refl _) x).alloc (by simp) y
  obtain ⟨ao, cap, rfl, hlc, hcm, hn0, hi, hao⟩ := hra
  obtain ⟨bo, bcap, rfl, hlc', hcm', hn0', hi', hbo⟩ := hrb
  have hml : (a.L.length : Int) ≤ 9223372036854775807 := by unfold maxLen at hcm; omega
  have HAO := hide' hao
  have HBO := hide' hbo
  clear hao hbo hlc hcm hlc' hcm' hi hi' hn0 hn0'
  have HDF : Hid (SameS a b ↔ a.kind = b.kind ∧ a.shut = b.shut ∧ a.eng = b.eng ∧ a.L = b.L) := Iff.rfl
  obtain ⟨ka, la, sa, ga⟩ := a
  obtain ⟨kb, lb, sb, gb⟩ := b
  simp only at *
  have hc : ((ka != kb) = true) ∨ ((ka != kb) = false ∧ (sa != sb) = true) ∨ ((ka != kb) = false ∧ (sa != sb) = false ∧ (ga != gb) = true) ∨ ((ka != kb) = false ∧ (sa != sb) = false ∧ (ga != gb) = false ∧ ((la.length : Int) != (lb.length : Int)) = true) ∨ ((ka != kb) = false ∧ (sa != sb) = false ∧ (ga != gb) = false ∧ ((la.length : Int) != (lb.length : Int)) = false) := by
    cases (ka != kb) <;> cases (sa != sb) <;> cases (ga != gb) <;> cases ((la.length : Int) != (lb.length : Int)) <;> simp
  rcases hc with h1 | ⟨h1, h2⟩ | ⟨h1, h2, h3⟩ | ⟨h1, h2, h3, h4⟩ | ⟨h1, h2, h3, h4⟩
  · have HD : Hid (decide (SameS ⟨ka, la, sa, ga⟩ ⟨kb, lb, sb, gb⟩) = false) := decide_eq_false (fun h => by rw [bne_iff_ne] at h1; exact h1 (HDF.out.1 h).1)
    go_enter Try.func37, Try.ntmps37
    go_wp2
    go_ret
    exact ⟨ret_b HD.out.symm, HBA.out _ _⟩
  · have HD : Hid (decide (SameS ⟨ka, la, sa, ga⟩ ⟨kb, lb, sb, gb⟩) = false) := decide_eq_false (fun h => by rw [bne_iff_ne] at h2; exact h2 (HDF.out.1 h).2.1)
    have h2' : (sa = true ∧ sb = false) ∨ (sa = false ∧ sb = true) := by
      cases sa <;> cases sb <;> simp at h2 ⊢
    clear h2
    rcases h2' with ⟨rfl, rfl⟩ | ⟨rfl, rfl⟩
    all_goals
      go_enter Try.func37, Try.ntmps37
      go_wp2
      go_ret
      exact ⟨ret_b HD.out.symm, HBA.out _ _⟩
  · have HD : Hid (decide (SameS ⟨ka, la, sa, ga⟩ ⟨kb, lb, sb, gb⟩) = false) := decide_eq_false (fun h => by rw [bne_iff_ne] at h3; exact h3 (HDF.out.1 h).2.2.1)
    obtain rfl : sa = sb := by simpa using h2
    clear h2
    cases sa
    all_goals
      go_enter Try.func37, Try.ntmps37
      go_wp2
      go_ret
      exact ⟨ret_b HD.out.symm, HBA.out _ _⟩
  · have HD : Hid (decide (SameS ⟨ka, la, sa, ga⟩ ⟨kb, lb, sb, gb⟩) = false) := decide_eq_false (fun h => by rw [bne_iff_ne] at h4; exact h4 (by rw [(HDF.out.1 h).2.2.2]))
    obtain rfl : sa = sb := by simpa using h2
    clear h2
    cases sa
    all_goals
      go_enter Try.func37, Try.ntmps37
      go_wp2
      go_ret
      exact ⟨ret_b HD.out.symm, HBA.out _ _⟩
  · have HE : Hid (ka = kb ∧ sa = sb ∧ ga = gb ∧ la.length = lb.length) := by
      rw [bne_eq_false_iff_eq] at h1 h2 h3 h4
      exact ⟨h1, h2, h3, by omega⟩
    obtain rfl : sa = sb := HE.out.2.1
    clear h2
    go_enter Try.func37, Try.ntmps37
    go_wp2
    go_loopw [5] (fun i wr => ∃ k : Nat, i = .int .i64 k ∧ k ≤ la.length ∧ Hid (∀ j, j < k → la.getD j 0 = lb.getD j 0) ∧ Hid (wr.cell? ⟨w.heap.size, 1, none⟩ = some (.slice ao la.length cap)) ∧ Hid (wr.cell? ⟨w.heap.size + 1, 1, none⟩ = some (.slice bo lb.length bcap)) ∧ Hid (Below w.heap.size w wr)) (fun i _ => la.length - (intOf i).toNat)
    case atStart =>
      refine ⟨0, rfl, by omega, fun j hj => by omega, ?_, ?_, HBA.out _ _⟩
      · show World.cell? _ _ = _
        simp
      · show World.cell? _ _ = _
        simp
    case round =>
      obtain ⟨k, rfl, hkl, hall, hbox, hbox2, hb⟩ := hrel
      have hbx := hbox.out
      have hbx2 := hbox2.out
      by_cases hlt : k < la.length
      · rcases HAO.out with hao | ⟨b1, o1, rfl, hc1⟩
        · subst hao; simp at hlt
        rcases HBO.out with hao | ⟨b2, o2, rfl, hc2⟩
        · have e0 : lb.length = 0 := by rw [hao]; rfl
          have := HE.out.2.2.2
          omega
        have hc0 : wr.cell? ⟨b1, o1 + k, none⟩ = some (.int .i64 (la.getD k 0)) := by
          rw [hb.out.cell (World.block_lt_of_cell? w ⟨b1, o1 + k, none⟩ (hc1 k hlt))]; exact hc1 k hlt
        have hc0' : wr.cell? ⟨b2, o2 + k, none⟩ = some (.int .i64 (lb.getD k 0)) := by
          rw [hb.out.cell (World.block_lt_of_cell? w ⟨b2, o2 + k, none⟩ (hc2 k (by have := HE.out.2.2.2; omega)))]; exact hc2 k (by have := HE.out.2.2.2; omega)
        obtain ⟨y, hy⟩ : ∃ y, y = la.getD k 0 := ⟨_, rfl⟩
        obtain ⟨z, hz⟩ : ∃ z, z = lb.getD k 0 := ⟨_, rfl⟩
        rw [← hy] at hc0
        rw [← hz] at hc0'
        have HY := hide' hy
        have HZ := hide' hz
        have hlb : (k : Int) < (lb.length : Int) := by have := HE.out.2.2.2; omega
        clear hc1 hc2 hy hz
        by_cases hq : y = z
        · have hqb : (y != z) = false := by rw [bne_eq_false_iff_eq]; exact hq
          have HQ := hide' hq
          clear hq
          go_wp2
          go_quiet (fail)
          go_wp2
          go_roundw
          case rel =>
            refine ⟨k + 1, by go_num, by omega, fun j hj => ?_, hbx, hbx2, below_drewN hb.out _⟩
            by_cases e : j = k
            · rw [e, ← HY.out, ← HZ.out]; exact HQ.out
            · exact hall.out j (by omega)
          case measure => simp [intOf]; omega
        · have hqb : (y != z) = true := by rw [bne_iff_ne]; exact hq
          have HQ := hide' hq
          clear hq
          go_wp2
          go_quiet (fail)
          go_wp2
          go_ret
          refine ⟨ret_b (decide_eq_false (fun h => HQ.out ?_)).symm, below_drewN hb.out _⟩
          rw [HY.out, HZ.out, (HDF.out.1 h).2.2.2]
      · go_wp2
        go_ret
        refine ⟨ret_b (decide_eq_true (HDF.out.2 ⟨HE.out.1, HE.out.2.1, HE.out.2.2.1, getD_ext_int la lb HE.out.2.2.2 (fun j hj => hall.out j (by omega))⟩)).symm, hb.out⟩

end Go.Proofs.Ytanmjihiceibbaa

/- Contracts of ferrymanref09: Table, May, Same. -/
namespace Go.Proofs.Ytanmjihiceibbaa
open Go.RowKit

set_option maxRecDepth 100000 in
set_option maxHeartbeats 4000000 in
theorem refTable_any (v : Value) (l : List Ent) (w : World) (hr : RdE w v l) :
    Calls Try.prog 34 #[v] w fun e w' => e = .returned (.bool (decide (TabOk l))) ∧ Below w.heap.size w w' := by
  obtain ⟨ao, cap, rfl, hlc, hcm, -, -, hao⟩ := hr
  have hml : (l.length : Int) ≤ 9223372036854775807 := by unfold maxLen at hcm; omega
  have HAO := hide hao
  clear hao hlc hcm
  obtain ⟨D, hD⟩ : ∃ D, D = decide (TabOk l) := ⟨_, rfl⟩
  rw [← hD]
  have HDT : Hid (TabTo l l.length → D = true) := fun h => by rw [hD]; exact decide_eq_true h
  have HDF : Hid (∀ k, k ≤ l.length → ¬ TabTo l k → D = false) := fun k hk h => by rw [hD]; exact decide_eq_false (fun hf => h (TabTo.mono hf hk))
  have HP0 := hide (TabTo.zero l)
  clear hD
  go_enter Try.func34, Try.ntmps34
  go_wp2
  go_loopw [3] (fun vi wr => ∃ k : Nat, vi = .int .i64 (k : Int) ∧ k ≤ l.length ∧ Hid (TabTo l k) ∧ Hid (Below w.heap.size w wr)) (fun vi _ => l.length - (intOf vi).toNat)
  case atStart => exact ⟨0, rfl, Nat.zero_le _, HP0, Below.refl _ _⟩
  case round =>
    obtain ⟨k, rfl, hk, hP, hB⟩ := hrel
    by_cases hlt : k < l.length
    case neg =>
      obtain rfl : k = l.length := by omega
      have HT := hide (HDT.out hP.out)
      go_wp2
      go_ret
      rw [HT.out]
      exact ⟨rfl, hB.out⟩
    rcases HAO.out with h0 | ⟨c, off, rfl, hc⟩
    · rw [h0] at hlt; simp at hlt
    have hck := hc k hlt
    have hkc := hck.keep (hB.out.block c hck.lt)
    have hne1 : c ≠ wr.heap.size := by have := hkc.lt; omega
    obtain ⟨c0, c1, c2⟩ := hkc
    have HPN := hide (TabTo.next (t := l) (k := k))
    have HPV : Hid (0 < k → EntAt wr c (off + (k - 1) * 3) (l.getD (k - 1) zeroE)) := hide (fun h => (hc (k - 1) (by omega)).keep (hB.out.block c (hc (k - 1) (by omega)).lt))
    have HBA : Hid (∀ X, Below w.heap.size w (wr.alloc X)) := fun X => hB.out.alloc hB.out.size X
    have HDK : Hid (¬ TabTo l (k + 1) → D = false) := hide (HDF.out (k + 1) (by omega))
    have HX : Hid (∀ cs, Be (wr.alloc (.cells cs 48)) wr.heap.size cs) := fun cs => heap_alloc_new wr _
    obtain ⟨r, hr⟩ : ∃ r, r = l.getD k zeroE := ⟨_, rfl⟩
    rw [← hr] at HPN c0 c1 c2
    clear hc hck hr HDF
    obtain ⟨P, S, X⟩ := r
    dsimp only at HPN c0 c1 c2
    unfold EntOk at HPN
    dsimp only at HPN
    by_cases hp0 : P < 0
    · have HD := hide (HDK.out (fun h => by have := (HPN.out.1 h).2.1; omega))
      clear HPN HDK
      go_upto_region 5 with fail
      go_quiet (fail)
      go_wp2
      go_ret
      rw [HD.out]
      exact ⟨rfl, below_drewN (HBA.out _) _⟩
    have hp0d : decide (P < 0) = false := decide_eq_false hp0
    by_cases hp1 : 64 < P
    · have HD := hide (HDK.out (fun h => by have := (HPN.out.1 h).2.1; omega))
      clear HPN HDK
      go_upto_region 5 with fail
      go_quiet (fail)
      go_wp2
      go_ret
      rw [HD.out]
      exact ⟨rfl, below_drewN (HBA.out _) _⟩
    have hp1d : decide (64 < P) = false := decide_eq_false hp1
    by_cases hs0 : S < 0
    · have HD := hide (HDK.out (fun h => by have := (HPN.out.1 h).2.1; omega))
      clear HPN HDK
      go_upto_region 5 with fail
      go_quiet (fail)
      go_wp2
      go_ret
      rw [HD.out]
      exact ⟨rfl, below_drewN (HBA.out _) _⟩
    have hs0d : decide (S < 0) = false := decide_eq_false hs0
    by_cases hs1 : 4611686018427387904 ≤ S
    · have HD := hide (HDK.out (fun h => by have := (HPN.out.1 h).2.1; omega))
      clear HPN HDK
      go_upto_region 5 with fail
      go_quiet (fail)
      go_wp2
      go_ret
      rw [HD.out]
      exact ⟨rfl, below_drewN (HBA.out _) _⟩
    have hs1d : decide (4611686018427387904 ≤ S) = false := decide_eq_false hs1
    by_cases hx0 : X < -1125899906842624
    · have HD := hide (HDK.out (fun h => by have := (HPN.out.1 h).2.1; omega))
      clear HPN HDK
      go_upto_region 5 with fail
      go_quiet (fail)
      go_wp2
      go_ret
      rw [HD.out]
      exact ⟨rfl, below_drewN (HBA.out _) _⟩
    have hx0d : decide (X < -1125899906842624) = false := decide_eq_false hx0
    by_cases hx1 : 1125899906842624 < X
    · have HD := hide (HDK.out (fun h => by have := (HPN.out.1 h).2.1; omega))
      clear HPN HDK
      go_upto_region 5 with fail
      go_quiet (fail)
      go_wp2
      go_ret
      rw [HD.out]
      exact ⟨rfl, below_drewN (HBA.out _) _⟩
    have hx1d : decide (1125899906842624 < X) = false := decide_eq_false hx1
    have HEO : Hid (0 ≤ P ∧ P ≤ 64 ∧ 0 ≤ S ∧ S < 4611686018427387904 ∧ -1125899906842624 ≤ X ∧ X ≤ 1125899906842624) := hide ⟨by omega, by omega, by omega, by omega, by omega, by omega⟩
    clear hp0 hp1 hs0 hs1 hx0 hx1
    by_cases hk0 : k = 0
    · have HP1 := hide (HPN.out.2 ⟨hP.out, HEO.out, fun h => absurd h (by omega)⟩)
      have hkd : decide (0 < k) = false := decide_eq_false (by omega)
      have hki : decide ((0 : Int) < (k : Int)) = false := decide_eq_false (by omega)
      clear HPN HDK HPV hk0
      go_upto_region 5 with fail
      go_quiet (fail)
      go_wp2
      go_roundw
      case rel => exact ⟨k + 1, by go_num, by omega, HP1, below_drewN (HBA.out _) _⟩
      case measure => simp [intOf]; omega
    · obtain ⟨q, rfl⟩ : ∃ q, k = q + 1 := ⟨k - 1, by omega⟩
      clear hk0
      have hpw := HPV.out (by omega)
      have hpv : ∀ X, (wr.alloc X).cell? ⟨c, off + (q + 1 - 1) * 3, none⟩ = some (.int .i64 (l.getD (q + 1 - 1) zeroE).proc) := fun X => (hpw.keep (Below.heap_alloc _ _ _ hpw.lt)).1
      clear hpw
      rw [Nat.add_sub_cancel] at hpv HPN
      have hqi : ((q + 1 : Nat) : Int) - 1 = (q : Int) := by omega
      have hql : (q : Int) < (l.length : Int) := by omega
      have hq0 : (0 : Int) < ((q + 1 : Nat) : Int) := by omega
      clear HPV
      generalize (l.getD q zeroE).proc = P0 at *
      by_cases hge : P ≤ P0
      · have HD := hide (HDK.out (fun h => by have := (HPN.out.1 h).2.2 (by omega); omega))
        clear HPN HDK
        go_upto_region 5 with fail
        go_quiet (fail)
        go_wp2
        go_ret
        rw [HD.out]
        exact ⟨rfl, below_drewN (HBA.out _) _⟩
      · have hged : decide (P ≤ P0) = false := decide_eq_false hge
        have HP1 := hide (HPN.out.2 ⟨hP.out, HEO.out, fun _ => by omega⟩)
        clear HPN HDK hge
        go_upto_region 5 with fail
        go_quiet (fail)
        go_wp2
        go_roundw
        case rel => exact ⟨q + 1 + 1, by go_num, by omega, HP1, below_drewN (HBA.out _) _⟩
        case measure => simp [intOf]; omega

end Go.Proofs.Ytanmjihiceibbaa

