import Derived.Test.YtanmjihiceibbaaGreatPack3
import Derived.Shelf.Spec.SlicesInsertGrow
import Derived.Deep.DeepAppendWide
import Derived.Test.YtanmjihiceibbaaGreatPack2
import Derived.Test.YtanmjihiceibbaaGreatPack1
import Derived.Deep.QuietTactic
import Derived.BigQuiet
/- Contract over entries of slices.DeleteFunc. -/
namespace Go.Proofs.YtanmjihiceibbaaGreat
open Go.RowKit

theorem filter_next (p : Ent → Bool) (l : List Ent) (j : Nat) (hj : j < l.length) : (l.take (j + 1)).filter (fun e => !p e) = (l.take j).filter (fun e => !p e) ++ if p (l.getD j zeroE) = true then [] else [l.getD j zeroE] := by
  have e1 : l.take (j + 1) = l.take j ++ [l.getD j zeroE] := by
    rw [List.take_add_one, List.getElem?_eq_getElem hj]
    simp [List.getD, hj]
  rw [e1, List.filter_append]
  congr 1
  generalize l.getD j zeroE = x
  cases h : p x <;> simp [h]

theorem filter_none (p : Ent → Bool) (l : List Ent) (i : Nat) (hi : i ≤ l.length) (h : ∀ j, j < i → p (l.getD j zeroE) = false) : (l.take i).filter (fun e => !p e) = l.take i := by
  rw [List.filter_eq_self]
  intro e he
  obtain ⟨j, hj, rfl⟩ := List.getElem_of_mem he
  rw [List.length_take] at hj
  have := h j (by omega)
  rw [List.getElem_take]
  simp only [List.getD, List.getElem?_eq_getElem (show j < l.length by omega), Option.getD_some] at this
  simp [this]

/-- Where the deleting stands: L is the row; i of it are kept, j are seen. -/
def DelAt (p : Ent → Bool) (l L : List Ent) (i j : Nat) : Prop := L.length = l.length ∧ L.take i = (l.take j).filter (fun e => !p e) ∧ L.drop j = l.drop j ∧ i < j

theorem DelAt.start {p : Ent → Bool} {l : List Ent} {i : Nat} (hi : i < l.length) (h : ∀ j, j < i → p (l.getD j zeroE) = false) (hp : p (l.getD i zeroE) = true) : DelAt p l l i (i + 1) := by
  refine ⟨rfl, ?_, rfl, Nat.lt_succ_self _⟩
  rw [filter_next p l i hi, if_pos hp, List.append_nil, filter_none p l i (by omega) h]

theorem DelAt.at {p : Ent → Bool} {l L : List Ent} {i j : Nat} (h : DelAt p l L i j) : L.getD j zeroE = l.getD j zeroE := by
  obtain ⟨h1, h2, h3, h4⟩ := h
  have e1 : (L.drop j).getD 0 zeroE = L.getD j zeroE := by simp [List.getD]
  have e2 : (l.drop j).getD 0 zeroE = l.getD j zeroE := by simp [List.getD]
  rw [← e1, ← e2, h3]

theorem drop_next {L l : List Ent} {j : Nat} (h : L.drop j = l.drop j) : L.drop (j + 1) = l.drop (j + 1) := by
  rw [← List.drop_drop, ← List.drop_drop, h]

theorem DelAt.skip {p : Ent → Bool} {l L : List Ent} {i j : Nat} (h : DelAt p l L i j) (hj : j < l.length) (hp : p (l.getD j zeroE) = true) : DelAt p l L i (j + 1) := by
  obtain ⟨h1, h2, h3, h4⟩ := h
  refine ⟨h1, ?_, drop_next h3, by omega⟩
  rw [filter_next p l j hj, if_pos hp, List.append_nil, h2]

theorem DelAt.keep {p : Ent → Bool} {l L : List Ent} {i j : Nat} (h : DelAt p l L i j) (hj : j < l.length) (hp : p (l.getD j zeroE) = false) : DelAt p l (L.set i (l.getD j zeroE)) (i + 1) (j + 1) := by
  obtain ⟨h1, h2, h3, h4⟩ := h
  refine ⟨by rw [List.length_set, h1], ?_, ?_, by omega⟩
  · rw [filter_next p l j hj, if_neg (by rw [hp]; simp), ← h2, List.take_add_one, List.take_set_of_le (Nat.le_refl _)]
    congr 1
    rw [List.getElem?_set_self (by omega)]
    rfl
  · rw [List.drop_set_of_lt (by omega)]
    exact drop_next h3

/-- An entry's three cells, written one by one. -/
theorem OwnE.put3 {w : World} {B g n cap : Nat} {l : List Ent} (h : OwnE w B (.slice (some ⟨g, 0, none⟩) n cap) l) (i : Nat) (hi : i < l.length) (p s r : Int) (o0 o1 o2 : Nat) (h0 : o0 = i * 3) (h1 : o1 = i * 3 + 1) (h2 : o2 = i * 3 + 2) :
    OwnE (((w.setCell ⟨g, o0, none⟩ (.int .i64 p)).setCell ⟨g, o1, none⟩ (.int .i64 s)).setCell ⟨g, o2, none⟩ (.int .i64 r)) B (.slice (some ⟨g, 0, none⟩) n cap) (l.set i ⟨p, s, r⟩) := by
  subst h0 h1 h2
  exact h.put i hi ⟨p, s, r⟩

theorem OwnE.ent {w : World} {B g n cap : Nat} {l : List Ent} (h : OwnE w B (.slice (some ⟨g, 0, none⟩) n cap) l) (i : Nat) (hi : i < l.length) : EntAt w g (i * 3) (l.getD i zeroE) ∧ (∀ k, w.frozen? ⟨g, k, none⟩ = false) ∧ B ≤ g ∧ l.length ≤ cap ∧ cap ≤ maxLen ∧ n = l.length := by
  rcases h.row with ⟨h1, -⟩ | ⟨g', cap', cur, h1, hB, hlt, hg, hc, hm, hs, hcell⟩
  · cases h1
  · injection h1 with h1 h2 h3
    injection h1 with h1
    injection h1 with h1
    subst h1 h3
    have hx : ∀ k, k < 3 → w.cell? ⟨g, i * 3 + k, none⟩ = (entC (l.getD i zeroE))[k]? := fun k hk => by
      rw [cell_of_row w g (i * 3 + k) _ _ _ hg, hcell _ (by omega), entCells_get l i k hi hk]
    exact ⟨⟨hx 0 (by decide), hx 1 (by decide), hx 2 (by decide)⟩, fun k => frozen_of_row w g k _ _ hg, hB, hc, hm, h2⟩

theorem belowStore3 {C : Nat} {w0 w : World} (h : Below C w0 w) (R : Nat) (hR : C ≤ R) (o0 o1 o2 : Nat) (x0 x1 x2 : Value) : Below C w0 (((w.setCell ⟨R, o0, none⟩ x0).setCell ⟨R, o1, none⟩ x1).setCell ⟨R, o2, none⟩ x2) :=
  ((h.setCell hR _).setCell hR _).setCell hR _

theorem zeroValue_ent (w : World) : (zeroValue 45).run Tryz.prog w = .ok (.agg #[.int .i64 0, .int .i64 0, .int .i64 0]) w := Tryz.zeroValue45 w

set_option maxRecDepth 100000 in
set_option maxHeartbeats 4000000 in
theorem deleteFuncE_any (g R : Nat) (p : Ent → Bool) (v : Value) (l : List Ent) (B : Nat) (w : World) (ho : OwnE w B v l) (hI : ∀ e ∈ l, EntI e) (hBw : B ≤ w.heap.size) (hlim : l.length ≤ 1000000)
    (eg : ∀ args W, (callFunc g args).run Tryz.prog W = .ok (.enter g args) W)
    (hp : ∀ W e, Below B w W → Calls Tryz.prog g #[entV e, .pointer (some ⟨R, 0, none⟩)] W fun x w' => x = .returned (.bool (p e)) ∧ Below W.heap.size W w') :
    Calls Tryz.prog 69 #[v, .func (.func g) #[] #[.pointer (some ⟨R, 0, none⟩)]] w fun x w' => ∃ v', x = .returned v' ∧ OwnE w' B v' (l.filter (fun e => !p e)) ∧ Below B w w' := by
  have HO := hide ho
  have HP := hide hp
  have HIX := hide (indexFuncE_any g R p v l w (ho.rd hI) eg (fun W e h => hp W e (h.mono hBw)))
  obtain ⟨va, vc, hv⟩ := ho.shape
  subst hv
  clear ho hp
  go_enter Tryz.func69, Tryz.ntmps69
  go_wp2_with fail
  refine HIX.out.mono ?_
  rintro x W0 ⟨k, rfl, hf, hb0⟩
  have HB0 := hide (hb0.mono hBw)
  have HO0 := hide (HO.out.below hb0 (Nat.le_refl _))
  clear HIX hb0 HO
  rcases hf with ⟨rfl, hf⟩ | ⟨i0, rfl, hi0, hf, hpi⟩
  · have HE : Hid (l.filter (fun e => !p e) = l) := hide (by
      have := filter_none p l l.length (Nat.le_refl _) hf
      rwa [List.take_length] at this)
    clear hf
    go_wp2
    go_ret
    exact ⟨_, rfl, by rw [HE.out]; exact HO0.out, HB0.out⟩
  have HD0 := hide (DelAt.start hi0 hf hpi)
  clear hf hpi
  rcases HO0.out.row with ⟨-, h2⟩ | ⟨gr, cap, cur, h1, hBg, -, -, hlc, hcm, -, -⟩
  · rw [h2] at hi0; simp at hi0
  injection h1 with h1 _ h3
  subst h1 h3
  have hml : (l.length : Int) ≤ 1000000 := by omega
  clear cur hcm
  have ei : ((i0 : Int) == -1) = false := beq_eq_false_iff_ne.2 (by omega)
  go_wp2
  go_loopw [5, 6] (fun v5 v6 wr => ∃ (i j : Nat) (L : List Ent), v5 = .int .i64 (i : Int) ∧ v6 = .int .i64 (j : Int) ∧ i < j ∧ j ≤ l.length ∧ Hid (OwnE wr B (.slice (some ⟨gr, 0, none⟩) l.length vc) L) ∧ Hid (DelAt p l L i j) ∧ Hid (Below B w wr)) (fun _ v6 _ => l.length - (intOf v6).toNat)
  case atStart => exact ⟨i0, i0 + 1, l, rfl, by go_num, by omega, by omega, HO0, HD0, HB0⟩
  case round =>
    clear HO0 HD0 HB0 ei
    obtain ⟨i, j, L, rfl, rfl, hij, hjl, hO, hD, hB⟩ := hrel
    by_cases hlt : j < l.length
    case neg =>
      obtain rfl : j = l.length := by omega
      have hL : L.length = l.length := hD.out.1
      have HT : Hid (L.take i = l.filter (fun e => !p e)) := hide (by rw [hD.out.2.1, List.take_length])
      have hE := (hO.out.ent i (by omega)).2.1
      have HK : Hid (∀ ty, (Builtin.clear_ #[27] ty #[.slice (some ⟨gr, i * 3, none⟩) (l.length - i) (vc - i)]).run Tryz.prog wr = .ok (.tuple #[]) (wr.setCells gr (i * 3) (zeros3 (l.length - i)))) := hide (fun ty =>
        run_clear_three wr _ _ _ Tryz.underlying27 zeroValue_ent gr (i * 3) (l.length - i) (vc - i) (by omega) (fun k hk => by
          obtain ⟨q, r, hr, rfl⟩ : ∃ q r, r < 3 ∧ k = q * 3 + r := ⟨k / 3, k % 3, Nat.mod_lt _ (by decide), by omega⟩
          have := (hO.out.ent (i + q) (by omega)).1
          rw [show i * 3 + (q * 3 + r) = (i + q) * 3 + r by omega]
          match r, hr with
          | 0, _ => rw [show (i + q) * 3 + 0 = (i + q) * 3 from rfl, this.1]; rfl
          | 1, _ => rw [this.2.1]; rfl
          | 2, _ => rw [this.2.2]; rfl) (fun k _ => hE _))
      have HOC := hide ((hO.out.cut i (by omega)).cells (i * 3) (by rw [List.length_take]; omega) (zeros3 (l.length - i)))
      rw [HT.out] at HOC
      have HBC := hide (belowCells hBg (zeros3 (l.length - i)) (i * 3) wr hB.out)
      have hvi : ¬ (vc = i) := by omega
      have hb1 : (i : Int) ≤ (l.length : Int) := by omega
      have hb2 : (i : Int) ≤ (vc : Int) := by omega
      have hb3 : i ≤ l.length := by omega
      have hb4 : i ≤ vc := by omega
      clear hE
      have hK := HK.out
      go_wp2
      go_ret
      exact ⟨_, rfl, HOC.out, HBC.out⟩
    have hji : (j : Int) < (l.length : Int) := by omega
    have hLl : L.length = l.length := hD.out.1
    obtain ⟨⟨c0, c1, c2⟩, -, -⟩ := hO.out.ent j (by omega)
    rw [hD.out.at] at c0 c1 c2
    have HSK := hide (hD.out.skip hlt)
    have HKP := hide (hD.out.keep hlt)
    obtain ⟨e, he⟩ : ∃ e, e = l.getD j zeroE := ⟨_, rfl⟩
    rw [← he] at c0 c1 c2 HSK HKP
    obtain ⟨pe, hpe⟩ : ∃ pe, pe = p e := ⟨_, rfl⟩
    have HC := hide (fun W h => HP.out W e h)
    rw [← hpe] at HC HSK HKP
    obtain ⟨ep, es, er⟩ := e
    unfold entV at HC
    simp only at HC c0 c1 c2 HKP
    clear he hpe hD
    have HB2 : Hid (∀ X, Below B w (wr.alloc X)) := hide (fun X => hB.out.alloc (Nat.le_trans hBw hB.out.size) X)
    have HX : Hid (Be (wr.alloc (.cells #[.int .i64 ep, .int .i64 es, .int .i64 er] 45)) wr.heap.size #[.int .i64 ep, .int .i64 es, .int .i64 er]) := hide (heap_alloc_new wr _)
    have HOW : Hid (∀ X, OwnE (wr.alloc X) B (.slice (some ⟨gr, 0, none⟩) l.length vc) L) := hide (fun X => hO.out.below ((Below.refl _ _).alloc (Nat.le_refl _) X) (Nat.le_refl _))
    go_wp2_with fail
    refine (HC.out _ (HB2.out _)).mono ?_
    rintro x W1 ⟨rfl, hb1⟩
    have HB3 := hide ((HB2.out (.cells #[.int .i64 ep, .int .i64 es, .int .i64 er] 45)).trans (hb1.mono (by have := hB.out.size; simp; omega)))
    have HX3 := hide (HX.out.below hb1 (Nat.le_refl _))
    have HO3 := hide ((HOW.out (.cells #[.int .i64 ep, .int .i64 es, .int .i64 er] 45)).below hb1 (Nat.le_refl _))
    clear hb1 HC HB2 HX HOW c0 c1 c2 hO hB
    cases pe with
    | true =>
      go_wp2
      go_roundw
      case rel => exact ⟨i, j + 1, L, rfl, by go_num, by omega, by omega, HO3, hide (HSK.out (by simp)), HB3⟩
      case measure => simp [intOf]; omega
    | false =>
      obtain ⟨⟨d0, d1, d2⟩, hfz, hBg2, -⟩ := HO3.out.ent i (by omega)
      obtain ⟨b0, f0⟩ := HX3.out.cell 0
      obtain ⟨b1, f1⟩ := HX3.out.cell 1
      obtain ⟨b2, f2⟩ := HX3.out.cell 2
      have z0 := hfz (i * 3)
      have z1 := hfz (i * 3 + 1)
      have z2 := hfz (i * 3 + 2)
      have hii : (i : Int) < (l.length : Int) := by omega
      have hil : i < l.length := by omega
      clear hfz
      go_wp2
      go_roundw
      case rel => exact ⟨i + 1, j + 1, L.set i ⟨ep, es, er⟩, by go_num, by go_num, by omega, by omega, hide (HO3.out.put3 i (by omega) ep es er _ _ _ (by omega) (by omega) (by omega)), hide (HKP.out (by simp)), hide (belowStore3 HB3.out gr hBg _ _ _ _ _ _)⟩
      case measure => simp [intOf]; omega

end Go.Proofs.YtanmjihiceibbaaGreat

/- Contract over entries of slices.Insert. -/
namespace Go.Proofs.YtanmjihiceibbaaGreat
open Go.RowKit

theorem RdE.one (w : World) (e : Ent) (he : EntI e) : RdE (w.alloc (.cells (entC e) 45)) (.slice (some ⟨w.heap.size, 0, none⟩) 1 1) [e] := by
  have h := OwnE.ofRow (w := w.alloc (.cells (entC e) 45)) (B := w.heap.size) (g := w.heap.size) (cap := 1) (l := [e]) (n := 1) rfl (Nat.le_refl _) (heap_alloc_new w _) (Nat.le_refl _) (by unfold maxLen; decide) rfl (fun j hj => by
    rw [List.length_singleton] at hj
    match j, hj with
    | 0, _ => rfl
    | 1, _ => rfl
    | 2, _ => rfl)
  exact h.rd (fun x hx => by rw [List.mem_singleton.1 hx]; exact he)

theorem ins_cells3 (l : List Ent) (i : Nat) (hi : i ≤ l.length) (e : Ent) (f : Nat → Option Value) (h1 : ∀ j, j < i * 3 → f j = (entCells l)[j]?) (h2 : ∀ j, j < 3 → f (i * 3 + j) = (entCells [e])[j]?)
    (h3 : ∀ j, j < (l.length - i) * 3 → f ((i + 1) * 3 + j) = (entCells (l.drop i))[j]?) (j : Nat) (hj : j < (l.length + 1) * 3) : f j = (entCells (l.take i ++ (e :: l.drop i)))[j]? := by
  have e1 : l.take i ++ (e :: l.drop i) = l.take i ++ ([e] ++ l.drop i) := rfl
  have l1 : (entCells (l.take i)).length = i * 3 := by rw [entCells_length, List.length_take]; congr 1; omega
  have l2 : (entCells [e]).length = 3 := entCells_length [e]
  rw [e1, entCells_app, entCells_app]
  by_cases g1 : j < i * 3
  · rw [List.getElem?_append_left (by omega), h1 j g1, entCells_take, List.getElem?_take_of_lt g1]
  · rw [List.getElem?_append_right (by omega), l1]
    by_cases g2 : j < i * 3 + 3
    · rw [List.getElem?_append_left (by omega), ← h2 (j - i * 3) (by omega)]
      congr 1
      omega
    · rw [List.getElem?_append_right (by omega), l2, ← h3 (j - i * 3 - 3) (by omega)]
      congr 1
      omega

theorem ins_length (l : List Ent) (i : Nat) (hi : i ≤ l.length) (e : Ent) : (l.take i ++ (e :: l.drop i)).length = l.length + 1 := by simp; omega

/-- What slices.Insert answers. -/
def InsE (w : World) (B : Nat) (L : List Ent) (x : Ending) (w' : World) : Prop := ∃ v', x = .returned v' ∧ OwnE w' B v' L ∧ Below B w w'

set_option maxRecDepth 100000 in
set_option maxHeartbeats 2000000 in
theorem insertE_end (v : Value) (l : List Ent) (B : Nat) (w : World) (ho : OwnE w B v l) (hB : B ≤ w.heap.size) (hlim : l.length ≤ 100000) (e : Ent) (he : EntI e) (I : Int) (hI : I = (l.length : Nat)) (N : Nat) (hN : N = w.heap.size) :
    Calls Tryz.prog 71 #[v, .int .i64 I, .slice (some ⟨N, 0, none⟩) 1 1] (w.alloc (.cells (entC e) 45)) fun x w' => InsE w B (l.take l.length ++ (e :: l.drop l.length)) x w' := by
  subst hI hN
  have HE : Hid (l.take l.length ++ (e :: l.drop l.length) = l ++ [e]) := hide (by rw [List.take_length, List.drop_length])
  rw [HE.out]
  have HR := hide (RdE.one w e he)
  have HB0 : Hid (∀ X, Below B w (w.alloc X)) := fun X => (Below.refl _ _).alloc hB X
  have HO := hide (ho.below ((Below.refl w.heap.size w).alloc (Nat.le_refl _) (.cells (entC e) 45)) (Nat.le_refl _))
  have hsz : B ≤ (w.alloc (.cells (entC e) 45)).heap.size := by simp; omega
  rcases ho.row with ⟨rfl, rfl⟩ | ⟨g, cap, cur, rfl, hBg, hlt, hg, hn, hm, hs, hc⟩
  · clear ho HE
    go_enter Tryz.func71, Tryz.ntmps71
    go_wp2_with (at_builtin; refine wpList_append_ents _ rfl _ _ rfl B _ [] rfl HO.out _ [e] rfl HR.out (by simp) hsz ?_)
    intro v1 W1 ho1 hb1
    have HO1 := hide ho1
    have HB1 := hide ((HB0.out _).trans hb1)
    clear ho1 hb1
    go_wp2
    go_ret
    exact ⟨_, rfl, HO1.out, HB1.out⟩
  · have hmi : (cap : Int) ≤ 9223372036854775807 := by unfold maxLen at hm; omega
    have hni : (l.length : Int) ≤ (cap : Int) := by omega
    clear ho HE hc hg hs hm
    by_cases hcl : cap = l.length
    all_goals
      go_enter Tryz.func71, Tryz.ntmps71
      go_wp2_with (at_builtin; refine wpList_append_ents _ rfl _ _ rfl B _ l rfl HO.out _ [e] rfl HR.out (by simp; omega) hsz ?_)
      intro v1 W1 ho1 hb1
      have HO1 := hide ho1
      have HB1 := hide ((HB0.out _).trans hb1)
      clear ho1 hb1
      go_wp2
      go_ret
      exact ⟨_, rfl, HO1.out, HB1.out⟩

theorem ov_ent (w : World) (g N kA kB : Nat) (hne : N ≠ g) (la ca lb cb o : Nat) (hsa : w.shape? N = some (45, kA)) (hsb : w.shape? g = some (45, kB)) (hkB : kB ≠ 0) (hfa : ∀ k, w.frozen? ⟨N, k, none⟩ = false) :
    (callFunc 99 #[.slice (some ⟨N, 0, none⟩) la ca, .slice (some ⟨g, o, none⟩) lb cb]).run Tryz.prog w = .ok (.value (.bool false)) w := by
  rw [run_callFunc_extern Tryz.func99 (by kernel_rfl) (by kernel_rfl) (by kernel_rfl) (e := Extern.SlicesOverlaps.overlaps #[27, 27] #[4]) (by kernel_rfl),
    Lib.run_overlaps_apart w 27 4 45 Tryz.underlying27 3 Tryz.sizeOf45 ⟨N, 0, none⟩ ⟨g, o, none⟩ la ca lb cb hne _ _ kA kB hsa hsb hkB (hfa 0) (hfa kA)]
  rfl

theorem size_ent : (Tryz.prog.info? 45).map (·.size) = some 3 := by
  obtain ⟨i0, hi, hz0, hz1, hz2⟩ := info_parts info_ent
  rw [hi]
  simp [hz1]

set_option maxRecDepth 100000 in
set_option maxHeartbeats 4000000 in
theorem insertE_room (g cap : Nat) (l : List Ent) (B : Nat) (w : World) (ho : OwnE w B (.slice (some ⟨g, 0, none⟩) l.length cap) l) (hB : B ≤ w.heap.size) (i : Nat) (hi : i < l.length) (hroom : l.length + 1 ≤ cap) (e : Ent) (I : Int) (hI : I = (i : Nat)) (N : Nat) (hN : N = w.heap.size) :
    Calls Tryz.prog 71 #[.slice (some ⟨g, 0, none⟩) l.length cap, .int .i64 I, .slice (some ⟨N, 0, none⟩) 1 1] (w.alloc (.cells (entC e) 45)) fun x w' => InsE w B (l.take i ++ (e :: l.drop i)) x w' := by
  subst hI
  rcases ho.row with ⟨h1, -⟩ | ⟨g', cap', cur, h1, hBg, hlt, hg, hn, hm, hs, hc⟩
  · cases h1
  injection h1 with h1 _ h3
  injection h1 with h1
  injection h1 with h1
  subst h1 h3
  clear ho
  have hv : (w.alloc (.cells (entC e) 45)).heap[N]? = some (.cells (entC e) 45 (0, 0)) := by rw [hN]; exact heap_alloc_new w _
  have hg0 : (w.alloc (.cells (entC e) 45)).heap[g]? = some (.cells cur 45 (0, 0)) := (Below.heap_alloc _ _ _ hlt).trans hg
  have HB0 : Hid (Below B w (w.alloc (.cells (entC e) 45))) := (Below.refl _ _).alloc hB _
  generalize w.alloc (.cells (entC e) 45) = W at *
  have hne : N ≠ g := by omega
  have hm' : (cap : Int) ≤ 9223372036854775807 := by unfold maxLen at hm; omega
  have hfz : ∀ (j : Nat), W.frozen? ⟨g, j, none⟩ = false := fun j => frozen_of_row W g j _ _ hg0
  have hov : ∀ la ca lb cb o, (callFunc 99 #[.slice (some ⟨N, 0, none⟩) la ca, .slice (some ⟨g, o, none⟩) lb cb]).run Tryz.prog W = .ok (.value (.bool false)) W := fun la ca lb cb o =>
    ov_ent W g N 3 (cap * 3) hne la ca lb cb o (by simp [World.shape?, hv, entC]) (by simp [World.shape?, hg0, hs]) (by omega) (fun k => frozen_of_row W N k _ _ hv)
  have hdl : (entCells (l.drop i)).length = (l.length - i) * 3 := by rw [entCells_length, List.length_drop]
  have hsome : ∀ j, j < (l.length + 1) * 3 → (W.cell? ⟨g, j, none⟩).isSome = true := fun j hj => by
    rw [cell_of_row W g j _ _ _ hg0, Array.getElem?_eq_getElem (by omega)]
    rfl
  have hcp1 : ∀ W', (∀ x, W'.cell? x = W.cell? x) → (∀ x, W'.frozen? x = W.frozen? x) → ∀ ty dc sc, (Builtin.copy_ #[27, 27] ty #[.slice (some ⟨g, (i + 1) * 3, none⟩) (l.length - i) dc, .slice (some ⟨g, i * 3, none⟩) (l.length + 1 - i) sc]).run Tryz.prog W' = .ok (goInt (Nat.min (l.length + 1 - i) (l.length - i))) (W'.setCells g ((i + 1) * 3) (entCells (l.drop i))) := fun W' hWc hWf ty dc sc =>
    run_copy_many W' _ _ ty 45 3 g ((i + 1) * 3) (l.length - i) dc ⟨g, i * 3, none⟩ (l.length + 1 - i) sc (entCells (l.drop i)) Tryz.underlying27 size_ent (by rw [hdl]; simp only [Nat.min_def]; split <;> omega)
      (fun j v hj => by
        have hj' : j < (l.length - i) * 3 := by rw [← hdl]; exact (List.getElem?_eq_some_iff.1 hj).1
        rw [Addr.add_lit, hWc, cell_of_row W g _ _ _ _ hg0, hc _ (by omega)]
        rw [entCells_drop, List.getElem?_drop] at hj
        exact hj)
      (fun j hj => by rw [hWc]; exact hsome _ (by omega)) (fun j hj => by rw [hWf]; exact hfz _) (entCells_one _)
  obtain ⟨W1, hW1⟩ : ∃ W1, W1 = W.drew.setCells g ((i + 1) * 3) (entCells (l.drop i)) := ⟨_, rfl⟩
  have hg1 : W1.heap[g]? = some (.cells (layC cur ((i + 1) * 3) (entCells (l.drop i))) 45 (0, 0)) := by rw [hW1]; exact heap_setCells g _ _ _ W.drew cur hg0
  have hv1 : W1.heap[N]? = some (.cells (entC e) 45 (0, 0)) := by rw [hW1, setCells_other g _ _ _ N hne]; exact hv
  have hl3 : (entCells [e]).length = 3 := entCells_length [e]
  have hcp2 : ∀ W', (∀ x, W'.cell? x = W1.cell? x) → (∀ x, W'.frozen? x = W1.frozen? x) → ∀ ty dc, (Builtin.copy_ #[27, 27] ty #[.slice (some ⟨g, i * 3, none⟩) (l.length + 1 - i) dc, .slice (some ⟨N, 0, none⟩) 1 1]).run Tryz.prog W' = .ok (goInt (Nat.min 1 (l.length + 1 - i))) (W'.setCells g (i * 3) (entCells [e])) := fun W' hWc hWf ty dc =>
    run_copy_many W' _ _ ty 45 3 g (i * 3) (l.length + 1 - i) dc ⟨N, 0, none⟩ 1 1 (entCells [e]) Tryz.underlying27 size_ent (by rw [hl3]; simp only [Nat.min_def]; split <;> omega)
      (fun j v hj => by
        rw [Addr.add_lit, hWc, Nat.zero_add, cell_of_row W1 N _ _ _ _ hv1]
        have : (entCells [e])[j]? = (entC e)[j]? := by
          have hj' : j < 3 := by rw [← hl3]; exact (List.getElem?_eq_some_iff.1 hj).1
          have := entCells_get [e] 0 j (by simp) hj'
          rwa [Nat.zero_mul, Nat.zero_add] at this
        rw [← this]
        exact hj)
      (fun j hj => by
        rw [hWc, cell_of_row W1 g _ _ _ _ hg1, Array.getElem?_eq_getElem (by rw [layC_size]; omega)]
        rfl) (fun j hj => by rw [hWf]; exact frozen_of_row W1 g _ _ _ hg1) (entCells_one _)
  have HFIN : Hid (InsE w B (l.take i ++ (e :: l.drop i)) (.returned (.slice (some ⟨g, 0, none⟩) (l.length + 1) cap)) (W1.setCells g (i * 3) (entCells [e]))) := hide (by
    refine ⟨_, rfl, OwnE.ofRow (ins_length l i (by omega) e).symm hBg (heap_setCells g _ _ _ W1 _ hg1) (by rw [ins_length l i (by omega) e]; exact hroom) hm (by rw [layC_size, layC_size]; exact hs) (fun j hj => ?_), ?_⟩
    · rw [ins_length l i (by omega) e] at hj
      refine ins_cells3 l i (by omega) e (fun j => (layC (layC cur ((i + 1) * 3) (entCells (l.drop i))) (i * 3) (entCells [e]))[j]?) (fun k hk => ?_) (fun k hk => ?_) (fun k hk => ?_) j hj
      · show (layC (layC cur ((i + 1) * 3) (entCells (l.drop i))) (i * 3) (entCells [e]))[k]? = _
        rw [layC_get _ _ _ _ (by rw [layC_size]; omega), if_neg (by omega), layC_get _ _ _ _ (by omega), if_neg (by omega)]
        exact hc k (by omega)
      · show (layC (layC cur ((i + 1) * 3) (entCells (l.drop i))) (i * 3) (entCells [e]))[i * 3 + k]? = _
        rw [layC_get _ _ _ _ (by rw [layC_size]; omega), if_pos (by omega), Nat.add_sub_cancel_left]
      · show (layC (layC cur ((i + 1) * 3) (entCells (l.drop i))) (i * 3) (entCells [e]))[(i + 1) * 3 + k]? = _
        rw [layC_get _ _ _ _ (by rw [layC_size]; omega), if_neg (by omega), layC_get _ _ _ _ (by omega), if_pos (by omega), Nat.add_sub_cancel_left]
    · rw [hW1]
      exact belowCells hBg _ _ _ (belowCells hBg _ _ _ (belowDrew HB0.out)))
  have hcq1 := fun ty dc sc => hcp1 W.drew (fun _ => rfl) (fun _ => rfl) ty dc sc
  have hcq2 := fun ty dc => hcp2 W1 (fun _ => rfl) (fun _ => rfl) ty dc
  clear hcp1 hcp2
  rw [hW1] at HFIN hcq2
  clear hW1 hg1 hv1 hc hs hg hg0 hv hsome hfz hm HB0 hdl hl3 hN
  have mixed : Tryz.prog.follows .mixedOrders = true := by kernel_rfl
  have hz2 : ¬ ((i : Int) = (l.length : Int)) := by omega
  have hz3 : ((i : Int) == (l.length : Int)) = false := beq_eq_false_iff_ne.2 hz2
  have hw1 : IntKind.i64.wrap ((i : Int) + 1) = (i : Int) + 1 := by rw [IntKind.wrap_i64]; omega
  have hw2 : IntKind.i64.wrap ((l.length : Int) + 1) = (l.length : Int) + 1 := by rw [IntKind.wrap_i64]; omega
  have hb1 : (0 : Int) ≤ (i : Int) + 1 := by omega
  have hin : i ≤ l.length := by omega
  have hini : (i : Int) ≤ (l.length : Int) := by omega
  have htn : ((i : Int) + 1).toNat = i + 1 := by omega
  have htl : ((l.length : Int) + 1).toNat = l.length + 1 := by omega
  have hb2 : ¬ (cap = i + 1) := by omega
  have hb3 : (i : Int) ≤ (l.length : Int) + 1 := by omega
  have hb4 : ¬ (cap = i) := by omega
  have hb5 : ¬ ((cap : Int) < (l.length : Int) + 1) := by omega
  have hb6 : (l.length : Int) + 1 ≤ (cap : Int) := by omega
  have hb7 : (i : Int) + 1 ≤ (l.length : Int) + 1 := by omega
  generalize entCells (l.drop i) = dcs at *
  generalize entCells [e] = ecs at *
  generalize l.take i ++ (e :: l.drop i) = LL at *
  go_enter Tryz.func71, Tryz.ntmps71
  go_wp2_with (simp only [hov])
  go_region_law_o (refine step_copy_runI rfl _ _ 27 27 rfl _ _ (by simp [Act.eval, Act.put]) (by simp [Act.eval, Act.put]) (hcq1 _ _ _) ?_)
  go_wp2_with (at_builtin; refine wpList_copy_runI _ rfl _ _ 27 27 rfl _ _ rfl rfl (hcq2 _ _) ?_)
  go_wp2
  go_ret
  exact HFIN.out

end Go.Proofs.YtanmjihiceibbaaGreat

/- Contract over entries of slices.Insert: where there is no room. -/
namespace Go.Proofs.YtanmjihiceibbaaGreat
open Go.RowKit

set_option maxRecDepth 100000 in
set_option maxHeartbeats 4000000 in
theorem insertE_grow (g cap : Nat) (l : List Ent) (B : Nat) (w : World) (ho : OwnE w B (.slice (some ⟨g, 0, none⟩) l.length cap) l) (hB : B ≤ w.heap.size) (i : Nat) (hi : i < l.length) (hroom : cap < l.length + 1) (hlim : l.length ≤ 100000) (e : Ent) (I : Int) (hI : I = (i : Nat)) (N : Nat) (hN : N = w.heap.size) :
    Calls Tryz.prog 71 #[.slice (some ⟨g, 0, none⟩) l.length cap, .int .i64 I, .slice (some ⟨N, 0, none⟩) 1 1] (w.alloc (.cells (entC e) 45)) fun x w' => InsE w B (l.take i ++ (e :: l.drop i)) x w' := by
  subst hI
  rcases ho.row with ⟨h1, -⟩ | ⟨g', cap', cur, h1, hBg, hlt, hg, hn, hm, hs, hc⟩
  · cases h1
  injection h1 with h1 _ h3
  injection h1 with h1
  injection h1 with h1
  subst h1 h3
  clear ho
  obtain ⟨i0, hi0, hz0, hz1, hz2⟩ := info_parts info_ent
  have hv : (w.alloc (.cells (entC e) 45)).heap[N]? = some (.cells (entC e) 45 (0, 0)) := by rw [hN]; exact heap_alloc_new w _
  have hg0 : (w.alloc (.cells (entC e) 45)).heap[g]? = some (.cells cur 45 (0, 0)) := (Below.heap_alloc _ _ _ hlt).trans hg
  have HB0 : Hid (Below B w (w.alloc (.cells (entC e) 45))) := (Below.refl _ _).alloc hB _
  have hszW : (w.alloc (.cells (entC e) 45)).heap.size = w.heap.size + 1 := by simp
  generalize w.alloc (.cells (entC e) 45) = W at *
  have hl3 : (entCells [e]).length = 3 := entCells_length [e]
  have hdl : (entCells (l.drop i)).length = (l.length - i) * 3 := by rw [entCells_length, List.length_drop]
  have htl : ((entCells l).take (i * 3)).length = i * 3 := by rw [List.length_take, entCells_length]; omega
  have hold : (Builtin.firstCells i0.size i (.slice (some ⟨g, 0, none⟩) i cap)).run Tryz.prog W.drew = .ok ((entCells l).take (i * 3)).toArray W.drew := by
    rw [hz1]
    exact run_firstCells_some W.drew 3 i ⟨g, 0, none⟩ i cap ((entCells l).take (i * 3)) htl (fun j v hj => by
      have hj' : j < i * 3 := by rw [← htl]; exact (List.getElem?_eq_some_iff.1 hj).1
      rw [List.getElem?_take_of_lt hj'] at hj
      rw [Addr.add_lit, Nat.zero_add, cell_of_row W.drew g j _ _ _ hg0, hc j (by omega)]
      exact hj)
  have hik : i + (l.length + 1 - i) = l.length + 1 := by omega
  have hkk : (l.length : Int) + 1 - (i : Int) = ((l.length + 1 - i : Nat) : Int) := by omega
  obtain ⟨G, hG⟩ : ∃ G, G = grownCap W (l.length + 1) cap 45 := ⟨_, rfl⟩
  obtain ⟨ROW, hROW⟩ : ∃ ROW, ROW = ((entCells l).take (i * 3)).toArray ++ Builtin.zeroCells (Value.agg #[.int .i64 0, .int .i64 0, .int .i64 0]).cells (l.length + 1 - i) ++ Builtin.zeroCells (Value.agg #[.int .i64 0, .int .i64 0, .int .i64 0]).cells (G - (l.length + 1)) := ⟨_, rfl⟩
  have hrz : ∀ ty, (Builtin.append_ #[27, 3] ty #[.slice (some ⟨g, 0, none⟩) i cap, .int .i64 ((l.length : Int) + 1 - (i : Int))]).run Tryz.prog W = .ok (.slice (some ⟨W.heap.size, 0, none⟩) (l.length + 1) G) ((W.alloc (.cells ROW 45)).drew) := fun ty => by
    have h := Lib.run_append_grow_zeros W 27 3 ty 45 i0 _ .i64 .i64 Tryz.underlying27 Tryz.underlying3 hi0 hz0 (some ⟨g, 0, none⟩) i cap _ hold (l.length + 1 - i) (by omega) (by omega) (by omega) (by omega) (by rw [hz2]; omega) (by rw [hz2, hik]; exact growslice_fits_wide hroom (by omega))
    rw [hik, ← hG, ← hROW, ← hkk] at h
    exact h
  have hGn : l.length + 1 ≤ G := by rw [hG]; exact grownCap_ge W _ _ _
  have hGm : G ≤ maxLen := by rw [hG]; exact grownCap_le_maxLen W (l.length + 1) cap 45 (by unfold maxLen; omega)
  have hz3s : ∀ n, (Builtin.zeroCells (Value.agg #[.int .i64 0, .int .i64 0, .int .i64 0]).cells n).size = n * 3 := fun n => by
    rw [← Array.length_toList, zeroCells3, zeros3_length]
  have hRs : ROW.size = G * 3 := by
    rw [hROW, Array.size_append, Array.size_append, hz3s, hz3s, List.size_toArray, htl]
    omega
  have hRc : ∀ j, j < i * 3 → ROW[j]? = (entCells l)[j]? := fun j hj => by
    rw [hROW, Array.append_assoc, Array.getElem?_append_left (by rw [List.size_toArray, htl]; exact hj), List.getElem?_toArray, List.getElem?_take_of_lt hj]
  have hrow : (W.alloc (.cells ROW 45)).drew.heap[W.heap.size]? = some (.cells ROW 45 (0, 0)) := heap_alloc_new W _
  have hvW : (W.alloc (.cells ROW 45)).drew.heap[N]? = some (.cells (entC e) 45 (0, 0)) := (Below.heap_alloc W _ N (by omega)).trans hv
  have hgW : (W.alloc (.cells ROW 45)).drew.heap[g]? = some (.cells cur 45 (0, 0)) := (Below.heap_alloc W _ g (by omega)).trans hg0
  have HB1 : Hid (Below B w (W.alloc (.cells ROW 45)).drew) := hide (belowDrew (HB0.out.alloc (by omega) _))
  have hBM : B ≤ W.heap.size := by omega
  have hNM : N ≠ W.heap.size := by omega
  have hgM : g ≠ W.heap.size := by omega
  obtain ⟨W2, hW2⟩ : ∃ W2, W2 = (W.alloc (.cells ROW 45)).drew := ⟨_, rfl⟩
  rw [← hW2] at hrow hvW hgW HB1
  have hcq1 : ∀ ty dc, (Builtin.copy_ #[27, 27] ty #[.slice (some ⟨W.heap.size, i * 3, none⟩) (l.length + 1 - i) dc, .slice (some ⟨N, 0, none⟩) 1 1]).run Tryz.prog W2 = .ok (goInt (Nat.min 1 (l.length + 1 - i))) (W2.setCells W.heap.size (i * 3) (entCells [e])) := fun ty dc =>
    run_copy_many W2 _ _ ty 45 3 W.heap.size (i * 3) (l.length + 1 - i) dc ⟨N, 0, none⟩ 1 1 (entCells [e]) Tryz.underlying27 size_ent (by rw [hl3]; simp only [Nat.min_def]; split <;> omega)
      (fun j v hj => by
        rw [Addr.add_lit, Nat.zero_add, cell_of_row W2 N _ _ _ _ hvW]
        have : (entCells [e])[j]? = (entC e)[j]? := by
          have hj' : j < 3 := by rw [← hl3]; exact (List.getElem?_eq_some_iff.1 hj).1
          have := entCells_get [e] 0 j (by simp) hj'
          rwa [Nat.zero_mul, Nat.zero_add] at this
        rw [← this]
        exact hj)
      (fun j hj => by
        rw [cell_of_row W2 _ _ _ _ _ hrow, Array.getElem?_eq_getElem (by omega)]
        rfl) (fun j hj => frozen_of_row W2 _ _ _ _ hrow) (entCells_one _)
  obtain ⟨W3, hW3⟩ : ∃ W3, W3 = (W2.setCells W.heap.size (i * 3) (entCells [e])).drew := ⟨_, rfl⟩
  have hrow3 : W3.heap[W.heap.size]? = some (.cells (layC ROW (i * 3) (entCells [e])) 45 (0, 0)) := by rw [hW3]; exact heap_setCells _ _ _ _ W2 ROW hrow
  have hg3 : W3.heap[g]? = some (.cells cur 45 (0, 0)) := by
    rw [hW3]
    exact (setCells_other W.heap.size _ _ W2 g hgM).trans hgW
  have HB3 : Hid (Below B w W3) := hide (by rw [hW3]; exact belowDrew (belowCells hBM _ _ _ HB1.out))
  have hcq2 : ∀ ty dc sc, (Builtin.copy_ #[27, 27] ty #[.slice (some ⟨W.heap.size, (i + 1) * 3, none⟩) (l.length - i) dc, .slice (some ⟨g, i * 3, none⟩) (l.length - i) sc]).run Tryz.prog W3 = .ok (goInt (Nat.min (l.length - i) (l.length - i))) (W3.setCells W.heap.size ((i + 1) * 3) (entCells (l.drop i))) := fun ty dc sc =>
    run_copy_many W3 _ _ ty 45 3 W.heap.size ((i + 1) * 3) (l.length - i) dc ⟨g, i * 3, none⟩ (l.length - i) sc (entCells (l.drop i)) Tryz.underlying27 size_ent (by rw [hdl]; simp only [Nat.min_def]; split <;> omega)
      (fun j v hj => by
        have hj' : j < (l.length - i) * 3 := by rw [← hdl]; exact (List.getElem?_eq_some_iff.1 hj).1
        rw [Addr.add_lit, cell_of_row W3 g _ _ _ _ hg3, hc _ (by omega)]
        rw [entCells_drop, List.getElem?_drop] at hj
        exact hj)
      (fun j hj => by
        rw [cell_of_row W3 _ _ _ _ _ hrow3, Array.getElem?_eq_getElem (by rw [layC_size]; omega)]
        rfl) (fun j hj => frozen_of_row W3 _ _ _ _ hrow3) (entCells_one _)
  have HFIN : Hid (InsE w B (l.take i ++ (e :: l.drop i)) (.returned (.slice (some ⟨W.heap.size, 0, none⟩) (l.length + 1) G)) (W3.setCells W.heap.size ((i + 1) * 3) (entCells (l.drop i)))) := hide (by
    refine ⟨_, rfl, OwnE.ofRow (ins_length l i (by omega) e).symm hBM (heap_setCells _ _ _ _ W3 _ hrow3) (by rw [ins_length l i (by omega) e]; exact hGn) hGm (by rw [layC_size, layC_size]; exact hRs) (fun j hj => ?_), ?_⟩
    · rw [ins_length l i (by omega) e] at hj
      refine ins_cells3 l i (by omega) e (fun j => (layC (layC ROW (i * 3) (entCells [e])) ((i + 1) * 3) (entCells (l.drop i)))[j]?) (fun k hk => ?_) (fun k hk => ?_) (fun k hk => ?_) j hj
      · show (layC (layC ROW (i * 3) (entCells [e])) ((i + 1) * 3) (entCells (l.drop i)))[k]? = _
        rw [layC_get _ _ _ _ (by rw [layC_size]; omega), if_neg (by omega), layC_get _ _ _ _ (by omega), if_neg (by omega)]
        exact hRc k hk
      · show (layC (layC ROW (i * 3) (entCells [e])) ((i + 1) * 3) (entCells (l.drop i)))[i * 3 + k]? = _
        rw [layC_get _ _ _ _ (by rw [layC_size]; omega), if_neg (by omega), layC_get _ _ _ _ (by omega), if_pos (by omega), Nat.add_sub_cancel_left]
      · show (layC (layC ROW (i * 3) (entCells [e])) ((i + 1) * 3) (entCells (l.drop i)))[(i + 1) * 3 + k]? = _
        rw [layC_get _ _ _ _ (by rw [layC_size]; omega), if_pos (by omega), Nat.add_sub_cancel_left]
    · exact belowCells hBM _ _ _ HB3.out)
  rw [hW3] at HFIN hcq2
  rw [hW2] at HFIN hcq2 hcq1
  clear hW3 hW2 hg3 hrow3 hrow hvW hgW hRs hRc hz3s HB3 HB1 hold hROW hc hs hg hg0 hv hm HB0 hdl hl3 htl hz2 hz1 hz0 hi0 hG hNM hgM hGm hkk hik hszW hN hBM
  have mixed : Tryz.prog.follows .mixedOrders = true := by kernel_rfl
  have hz2 : ¬ ((i : Int) = (l.length : Int)) := by omega
  have hz3 : ((i : Int) == (l.length : Int)) = false := beq_eq_false_iff_ne.2 hz2
  have hw1 : IntKind.i64.wrap ((i : Int) + 1) = (i : Int) + 1 := by rw [IntKind.wrap_i64]; omega
  have hw2 : IntKind.i64.wrap ((l.length : Int) + 1) = (l.length : Int) + 1 := by rw [IntKind.wrap_i64]; omega
  have hb1 : (0 : Int) ≤ (i : Int) + 1 := by omega
  have hin : i ≤ l.length := by omega
  have hini : (i : Int) ≤ (l.length : Int) := by omega
  have hinc : (i : Int) ≤ (cap : Int) := by omega
  have hicc : i ≤ cap := by omega
  have htn : ((i : Int) + 1).toNat = i + 1 := by omega
  have htl : ((l.length : Int) + 1).toNat = l.length + 1 := by omega
  have hb2 : ¬ (G = i + 1) := by omega
  have hb3 : (i : Int) ≤ (l.length : Int) + 1 := by omega
  have hb4 : ¬ (cap = i) := by omega
  have hb4' : ¬ (G = i) := by omega
  have hb5 : (cap : Int) < (l.length : Int) + 1 := by omega
  have hb7 : (i : Int) + 1 ≤ (l.length : Int) + 1 := by omega
  have hlb : (l.length : Int) ≤ 100000 := by omega
  have hw3 : IntKind.i64.wrap ((l.length : Int) + 1 - (i : Int)) = (l.length : Int) + 1 - (i : Int) := by rw [IntKind.wrap_i64]; omega
  clear hB hBg hlt hlim
  generalize entCells (l.drop i) = dcs at *
  generalize entCells [e] = ecs at *
  generalize l.take i ++ (e :: l.drop i) = LL at *
  go_enter Tryz.func71, Tryz.ntmps71
  go_wp2_with (first
    | (at_builtin; refine Lib.wpList_append_run _ rfl _ _ _ _ rfl _ _ rfl rfl _ _ (hrz _) ?_)
    | (at_builtin; refine wpList_copy_runI _ rfl _ _ 27 27 rfl _ _ rfl rfl (hcq1 _ _) ?_))
  go_region_law_o (refine step_copy_runI rfl _ _ 27 27 rfl _ _ (by simp [Act.eval, Act.put]) (by simp [Act.eval, Act.put]) (hcq2 _ _ _) ?_)
  go_wp2
  go_ret
  exact HFIN.out

theorem insertE_any (v : Value) (l : List Ent) (B : Nat) (w : World) (ho : OwnE w B v l) (hB : B ≤ w.heap.size) (hlim : l.length ≤ 100000) (i : Nat) (hi : i ≤ l.length) (e : Ent) (he : EntI e) (I : Int) (hI : I = (i : Nat)) (N : Nat) (hN : N = w.heap.size) :
    Calls Tryz.prog 71 #[v, .int .i64 I, .slice (some ⟨N, 0, none⟩) 1 1] (w.alloc (.cells (entC e) 45)) fun x w' => InsE w B (l.take i ++ (e :: l.drop i)) x w' := by
  by_cases h : i = l.length
  · subst h
    exact insertE_end v l B w ho hB hlim e he I hI N hN
  · rcases ho.row with ⟨-, rfl⟩ | ⟨g, cap, cur, rfl, -⟩
    · exact absurd (by simpa using hi) (by simpa using h)
    · by_cases hr : l.length + 1 ≤ cap
      · exact insertE_room g cap l B w ho hB i (by omega) hr e I hI N hN
      · exact insertE_grow g cap l B w ho hB i (by omega) (by omega) hlim e I hI N hN

end Go.Proofs.YtanmjihiceibbaaGreat

/- Contracts of the document's answer for layer num, its readers: read, Get, GetSigned, Fixed, Zig, Zag. -/
namespace Go.Proofs.YtanmjihiceibbaaGreat
open Go.RowKit

theorem zigzag_neg' (n : Int) (h : ¬ 0 ≤ n) : ((Lib.zigzag n : Nat) : Int) = -(n + 1) * 2 + 1 := by
  unfold Lib.zigzag
  rw [if_neg h]
  omega

set_option maxRecDepth 100000 in
set_option maxHeartbeats 400000 in
theorem refZag_any (u : Nat) (w : World) (h : u < 18446744073709551616) :
    Calls Tryz.prog 112 #[.int .u64 (u : Int)] w fun e w' => e = .returned (.int .i64 (zag u)) ∧ w' = w := by
  have HZ : Hid (zag u = if u % 2 = 0 then ((u / 2 : Nat) : Int) else -((u / 2 : Nat) : Int) - 1) := rfl
  obtain ⟨U, hU⟩ : ∃ U : Int, U = (u : Int) := ⟨_, rfl⟩
  have hU0 : 0 ≤ U := by omega
  have hU1 : U < 18446744073709551616 := by omega
  rw [← hU]
  have HU := hide hU
  clear hU h
  by_cases hp : U % 2 = 0
  · have hq : (U % 2 == 0) = true := beq_iff_eq.2 hp
    have HQ := hide hp
    clear hp
    go_enter Tryz.func112, Tryz.ntmps112
    go_wp2
    go_ret
    have e := HU.out
    have e2 := HQ.out
    refine ⟨ret_int ?_, rfl⟩
    rw [HZ.out, if_pos (by omega)]
    omega
  · have hq : (U % 2 == 0) = false := beq_eq_false_iff_ne.2 hp
    have HQ := hide hp
    clear hp
    go_enter Tryz.func112, Tryz.ntmps112
    go_wp2
    go_ret
    have e := HU.out
    have e2 := HQ.out
    refine ⟨ret_int ?_, rfl⟩
    rw [HZ.out, if_neg (by omega)]
    omega

/-- 128^k modulo 2^64, as read reckons it. -/
def one128 (k : Nat) : Int := ((128 ^ k % 18446744073709551616 : Nat) : Int)

theorem one_step (k : Nat) : (one128 k * 128) % 18446744073709551616 = one128 (k + 1) := by
  unfold one128
  rw [Nat.pow_succ]
  omega

theorem read_step (l : List UInt8) (k : Nat) (hk : k < l.length) (h10 : k < 10) (h9 : k = 9 → ((l.getD k 0).toNat : Int) % 128 ≤ 1) :
    (((val (l.take k) : Nat) : Int) + (((l.getD k 0).toNat : Int) % 128 * one128 k) % 18446744073709551616) % 18446744073709551616 = ((val (l.take (k + 1)) : Nat) : Int) := by
  have hv := val_take_lt l k (by omega)
  have ho : one128 k = ((128 ^ k : Nat) : Int) := by
    unfold one128
    have : 128 ^ k ≤ 128 ^ 9 := Nat.pow_le_pow_right (by decide) (by omega)
    have e9 : 128 ^ 9 = 9223372036854775808 := by decide
    rw [Nat.mod_eq_of_lt (by omega)]
  rw [ho, val_take l k hk]
  have e : (((l.getD k 0).toNat : Int) % 128 * ((128 ^ k : Nat) : Int)) = (((l.getD k 0).toNat % 128 * 128 ^ k : Nat) : Int) := by
    rw [Int.natCast_mul]
    simp
  rw [e]
  have hb : (l.getD k 0).toNat % 128 * 128 ^ k < 9223372036854775809 := by
    by_cases hk9 : k = 9
    · have := h9 hk9
      subst hk9
      have e9 : 128 ^ 9 = 9223372036854775808 := by decide
      rw [e9]
      omega
    · have hp : 128 ^ k ≤ 128 ^ 8 := Nat.pow_le_pow_right (by decide) (by omega)
      have hm : (l.getD k 0).toNat % 128 ≤ 127 := by omega
      have := Nat.mul_le_mul hm hp
      have e8 : 127 * 128 ^ 8 < 9223372036854775809 := by decide
      omega
  have hv2 : val (l.take k) < 9223372036854775808 := by
    have : 128 ^ k ≤ 128 ^ 9 := Nat.pow_le_pow_right (by decide) (by omega)
    have e9 : 128 ^ 9 = 9223372036854775808 := by decide
    omega
  omega

set_option maxRecDepth 100000 in
set_option maxHeartbeats 1000000 in
theorem read_any (v : Value) (l : List UInt8) (w : World) (hr : Rd w v l) :
    Calls Tryz.prog 83 #[v] w fun e w' => e = .returned (.tuple #[.int .u64 ((dec64 l).1 : Nat), .int .i64 ((dec64 l).2 : Nat)]) ∧ w' = w := by
  obtain ⟨ao, cap, rfl, hlc, hcm, hn0, hao⟩ := hr
  clear hn0
  have hml : (l.length : Int) ≤ 9223372036854775807 := by unfold maxLen at hcm; omega
  go_enter Tryz.func83, Tryz.ntmps83
  go_wp2
  go_loop [4, 5, 6] (fun u one i => ∃ k : Nat, i = .int .i64 k ∧ k ≤ 10 ∧ k ≤ l.length ∧ Hid (∀ j, j < k → 128 ≤ (l.getD j 0).toNat) ∧ one = .int .u64 (one128 k) ∧ (k ≤ 9 → u = .int .u64 (val (l.take k) : Nat)) ∧ ∃ U : Int, u = .int .u64 U) (fun _ _ i => 10 - (intOf i).toNat)
  case atStart => exact ⟨0, rfl, by omega, by omega, fun j hj => by omega, rfl, fun _ => rfl, _, rfl⟩
  case round =>
    obtain ⟨k, rfl, hk10, hkl, hall, rfl, hu, U, rfl⟩ := hrel
    by_cases hlt : k < 10 ∧ k < l.length
    · obtain ⟨hlt, hlt'⟩ := hlt
      rcases hao with hao | ⟨b, off, rfl, hc⟩
      · subst hao; simp at hlt'
      · have hu' := hu (by omega)
        simp only [Value.int.injEq, true_and] at hu'
        subst hu'
        clear hu
        have hck := hc k hlt'
        clear hc
        obtain ⟨y, hy⟩ : ∃ y : Int, y = ((l.getD k 0).toNat : Int) := ⟨_, rfl⟩
        rw [← hy] at hck
        have hy0 : 0 ≤ y := by omega
        have hy1 : y < 256 := by have := (l.getD k 0).toNat_lt; omega
        have HY := hide hy
        clear hy
        have HR := hide (read_step l k hlt' hlt)
        have HO : Hid (one128 (k + 1) = (one128 k * 128) % 18446744073709551616) := (one_step k).symm
        have ho0 : 0 ≤ one128 k := by unfold one128; omega
        have ho1 : one128 k < 18446744073709551616 := by unfold one128; omega
        rw [← HY.out] at HR
        generalize one128 k = o at *
        obtain ⟨z, hz⟩ : ∃ z : Int, z = ((val (l.take k) : Nat) : Int) := ⟨_, rfl⟩
        rw [← hz] at HR ⊢
        clear hz
        by_cases hA : k = 9 ∧ 1 < y % 128
        · have H : Hid (dec64 l = (0, 0)) := by
            have e := HY.out
            obtain ⟨hk9, hd⟩ := hA
            subst hk9
            by_cases hy : y < 128
            · exact dec64_ten (.inr ⟨by omega, by omega, by omega, fun j hj => hall.out j (by omega), by show (l.getD 9 0).toNat < 128; omega⟩) (by omega)
            · exact dec64_none (.inl ⟨rfl, fun j h1 h2 => by
                by_cases ej : j = 9
                · subst ej; omega
                · exact hall.out j (by omega)⟩)
          have e9 : ((k : Int) == 9) = true := beq_iff_eq.2 (by omega)
          have hd := hA.2
          clear hA
          go_wp2
          go_ret2
          exact ⟨by rw [H.out]; rfl, rfl⟩
        · have HR2 := hide (HR.out (fun h => by omega))
          have HA := hide hA
          have h9 : (k = 9 ∧ ¬ 1 < y % 128) ∨ k ≠ 9 := by omega
          clear HR hA
          by_cases hy : y < 128
          · by_cases h0 : 0 < k ∧ y = 0
            · have H : Hid (dec64 l = (0, 0)) := by
                have e := HY.out
                exact dec64_last0 (.inr ⟨by omega, by omega, by omega, fun j hj => hall.out j (by omega), by show (l.getD k 0).toNat < 128; omega⟩) h0.1 (by omega)
              obtain ⟨hk0, hy00⟩ := h0
              have hk0' : (0 : Int) < (k : Int) := by omega
              have hd0 : (y % 128 == 0) = true := beq_iff_eq.2 (by omega)
              rcases h9 with ⟨e, hd⟩ | e
              · have e9 : ((k : Int) == 9) = true := beq_iff_eq.2 (by omega)
                clear e hy00
                go_wp2
                go_ret2
                exact ⟨by rw [H.out]; rfl, rfl⟩
              · have e9 : ((k : Int) == 9) = false := beq_eq_false_iff_ne.2 (by omega)
                clear e hy00
                go_wp2
                go_ret2
                exact ⟨by rw [H.out]; rfl, rfl⟩
            · have H : Hid (dec64 l = (val (l.take (k + 1)), k + 1)) := by
                have e := HY.out
                have h9' := HA.out
                exact (dec64_good (.inr ⟨by omega, by omega, by omega, fun j hj => hall.out j (by omega), by show (l.getD k 0).toNat < 128; omega⟩) (fun h => by omega) (fun h => by omega)).1
              have hw : (k = 9 ∧ ¬ 1 < y % 128 ∧ ¬ y % 128 = 0) ∨ (k ≠ 9 ∧ k = 0) ∨ (k ≠ 9 ∧ k ≠ 0 ∧ ¬ y % 128 = 0) := by omega
              clear h0 h9
              rcases hw with hw | hw | hw
              · have e9 : ((k : Int) == 9) = true := beq_iff_eq.2 (by omega)
                have hd := hw.2.1
                have hk0' : (0 : Int) < (k : Int) := by omega
                have hd0 : (y % 128 == 0) = false := beq_eq_false_iff_ne.2 (by omega)
                clear hw
                go_wp2
                go_ret2
                exact ⟨by rw [H.out]; simp only; rw [← HR2.out]; rfl, rfl⟩
              · have e9 : ((k : Int) == 9) = false := beq_eq_false_iff_ne.2 (by omega)
                have hk0' : ¬ (0 : Int) < (k : Int) := by omega
                clear hw
                go_wp2
                go_ret2
                exact ⟨by rw [H.out]; simp only; rw [← HR2.out]; rfl, rfl⟩
              · have e9 : ((k : Int) == 9) = false := beq_eq_false_iff_ne.2 (by omega)
                have hk0' : (0 : Int) < (k : Int) := by omega
                have hd0 : (y % 128 == 0) = false := beq_eq_false_iff_ne.2 (by omega)
                clear hw
                go_wp2
                go_ret2
                exact ⟨by rw [H.out]; simp only; rw [← HR2.out]; rfl, rfl⟩
          · have HJ : Hid (∀ j, j < k + 1 → 128 ≤ (l.getD j 0).toNat) := by
              have e := HY.out
              intro j hj
              by_cases ej : j = k
              · subst ej; omega
              · exact hall.out j (by omega)
            rcases h9 with ⟨e, hd⟩ | e
            · have e9 : ((k : Int) == 9) = true := beq_iff_eq.2 (by omega)
              clear e
              go_wp2
              go_round
              case rel => exact ⟨k + 1, by go_num, by omega, by omega, HJ, by rw [HO.out]; rfl, fun _ => by rw [← HR2.out]; rfl, _, rfl⟩
              case measure => simp [intOf]; omega
            · have e9 : ((k : Int) == 9) = false := beq_eq_false_iff_ne.2 (by omega)
              clear e
              go_wp2
              go_round
              case rel => exact ⟨k + 1, by go_num, by omega, by omega, HJ, by rw [HO.out]; rfl, fun _ => by rw [← HR2.out]; rfl, _, rfl⟩
              case measure => simp [intOf]; omega
    · have H : Hid (dec64 l = (0, 0)) := dec64_none (.inl ⟨rfl, fun j h1 h2 => hall.out j (by omega)⟩)
      by_cases hk : k < l.length
      all_goals
        go_wp2
        go_ret2
        exact ⟨by rw [H.out]; rfl, rfl⟩

set_option maxRecDepth 100000 in
set_option maxHeartbeats 400000 in
theorem refGet_any (v : Value) (l : List UInt8) (w : World) (hr : Rd w v l) :
    Calls Tryz.prog 50 #[v] w fun e w' => e = .returned (.tuple #[.int .i64 ((dec62 l).1 : Nat), .int .i64 ((dec62 l).2 : Nat)]) ∧ w' = w := by
  have HC := hide (read_any v l w hr)
  have H : Hid (dec62 l = if (dec64 l).1 < 4611686018427387904 then dec64 l else (0, 0)) := rfl
  have HD := hide (dec64_cases l)
  generalize dec64 l = d at *
  obtain ⟨u, k⟩ := d
  obtain ⟨U, hU⟩ : ∃ U : Int, U = (u : Int) := ⟨_, rfl⟩
  simp only at HC H HD
  rw [← hU] at HC
  have hU0 : 0 ≤ U := by omega
  have HU := hide hU
  clear hU
  by_cases hk : k = 0
  · have H2 : Hid (dec62 l = (0, 0)) := by
      have e := H.out
      rcases HD.out with h | h
      · have hu0 : u = 0 := congrArg Prod.fst h
        subst hu0 hk
        exact e
      · omega
    have hk0 : ((k : Int) == 0) = true := beq_iff_eq.2 (by omega)
    clear hk
    go_enter Tryz.func50, Tryz.ntmps50
    go_wp2_with fail
    refine HC.out.mono ?_
    rintro e w' ⟨rfl, rfl⟩
    go_wp2
    go_ret2
    rw [H2.out]
    exact ⟨rfl, rfl⟩
  · have hk0 : ((k : Int) == 0) = false := beq_eq_false_iff_ne.2 (by omega)
    clear hk
    by_cases hu : U < 4611686018427387904
    · go_enter Tryz.func50, Tryz.ntmps50
      go_wp2_with fail
      refine HC.out.mono ?_
      rintro e w' ⟨rfl, rfl⟩
      go_wp2
      go_ret2
      have e := H.out
      have eu := HU.out
      rw [if_pos (by omega)] at e
      rw [e]
      exact ⟨by rw [eu]; rfl, rfl⟩
    · go_enter Tryz.func50, Tryz.ntmps50
      go_wp2_with fail
      refine HC.out.mono ?_
      rintro e w' ⟨rfl, rfl⟩
      go_wp2
      go_ret2
      have e := H.out
      have eu := HU.out
      rw [if_neg (by omega)] at e
      rw [e]
      exact ⟨rfl, rfl⟩

set_option maxRecDepth 100000 in
set_option maxHeartbeats 400000 in
theorem refGetSigned_any (v : Value) (l : List UInt8) (w : World) (hr : Rd w v l) :
    Calls Tryz.prog 85 #[v] w fun e w' => e = .returned (.tuple #[.int .i64 (zag (dec64 l).1), .int .i64 ((dec64 l).2 : Nat)]) ∧ w' = w := by
  have HC := hide (read_any v l w hr)
  have hlt := dec64_lt l
  have HD := hide (dec64_cases l)
  generalize dec64 l = d at *
  obtain ⟨u, k⟩ := d
  simp only at HC hlt HD
  by_cases hk : k = 0
  · have hu : u = 0 := by
      rcases HD.out with h | h
      · exact congrArg Prod.fst h
      · omega
    subst hk hu
    clear HD
    go_enter Tryz.func85, Tryz.ntmps85
    go_wp2_with fail
    refine HC.out.mono ?_
    rintro e w' ⟨rfl, rfl⟩
    go_wp2
    go_ret2
    exact ⟨rfl, rfl⟩
  · have hk0 : ((k : Int) == 0) = false := beq_eq_false_iff_ne.2 (by omega)
    clear hk
    go_enter Tryz.func85, Tryz.ntmps85
    go_wp2_with fail
    refine HC.out.mono ?_
    rintro e w' ⟨rfl, rfl⟩
    go_wp2_with fail
    refine (refZag_any u _ hlt).mono ?_
    rintro e w1 ⟨rfl, rfl⟩
    go_wp2
    go_ret2
    exact ⟨rfl, rfl⟩

/-- The number of the bytes from the k-th on, of the first eight. -/
def leTail (l : List UInt8) (k : Nat) : Nat := Lib.leNat ((l.take 8).drop k)

theorem leTail_out (l : List UInt8) (k : Nat) (h : l.length ≤ k) : leTail l k = leTail l (k + 1) := by
  unfold leTail
  rw [List.drop_of_length_le (by simp; omega), List.drop_of_length_le (by simp; omega)]

theorem leTail_in (l : List UInt8) (k : Nat) (h : k < l.length) (h8 : k < 8) : leTail l k = (l.getD k 0).toNat + 256 * leTail l (k + 1) := by
  unfold leTail
  have hk : k < (l.take 8).length := by simp; omega
  rw [List.drop_eq_getElem_cons hk, Lib.leNat]
  simp [List.getD, h]

theorem leTail_lt (l : List UInt8) (k : Nat) (h8 : k ≤ 8) : leTail l k < 256 ^ (8 - k) := by
  unfold leTail
  have h := leNat_lt ((l.take 8).drop k)
  have h2 : ((l.take 8).drop k).length ≤ 8 - k := by simp; omega
  have h3 : 256 ^ ((l.take 8).drop k).length ≤ 256 ^ (8 - k) := Nat.pow_le_pow_right (by decide) h2
  omega

theorem fixed_step (l : List UInt8) (k : Nat) (h : k < l.length) (h8 : k < 8) :
    ((((leTail l (k + 1) : Nat) : Int) * 256) % 18446744073709551616 + ((l.getD k 0).toNat : Int)) % 18446744073709551616 = ((leTail l k : Nat) : Int) := by
  have h1 := leTail_in l k h h8
  have h2 := leTail_lt l (k + 1) (by omega)
  have h3 : 256 ^ (8 - (k + 1)) ≤ 256 ^ 7 := Nat.pow_le_pow_right (by decide) (by omega)
  have e7 : 256 ^ 7 = 72057594037927936 := by decide
  have hb := (l.getD k 0).toNat_lt
  omega

set_option maxRecDepth 100000 in
set_option maxHeartbeats 400000 in
theorem refFixed_any (v : Value) (l : List UInt8) (w : World) (hr : Rd w v l) :
    Calls Tryz.prog 51 #[v] w fun e w' => e = .returned (.int .u64 (Lib.leNat (l.take 8) : Nat)) ∧ w' = w := by
  obtain ⟨ao, cap, rfl, hlc, hcm, hn0, hao⟩ := hr
  clear hn0
  have hml : (l.length : Int) ≤ 9223372036854775807 := by unfold maxLen at hcm; omega
  have HE : Hid (leTail l 0 = Lib.leNat (l.take 8)) := rfl
  have H8 : Hid (leTail l 8 = 0) := by
    unfold leTail
    rw [List.drop_of_length_le (by simp; omega)]
    rfl
  go_enter Tryz.func51, Tryz.ntmps51
  go_wp2
  go_loop [3, 4] (fun n i => ∃ k : Nat, i = .int .i64 ((k : Int) - 1) ∧ k ≤ 8 ∧ n = .int .u64 (leTail l k : Nat)) (fun _ i => (intOf i + 1).toNat)
  case atStart => exact ⟨8, rfl, by omega, by rw [H8.out]; rfl⟩
  case round =>
    obtain ⟨k, rfl, hk8, rfl⟩ := hrel
    by_cases hk : k = 0
    · subst hk
      go_wp2
      go_ret
      exact ⟨ret_int (by rw [HE.out]), rfl⟩
    · obtain ⟨j, rfl⟩ : ∃ j, k = j + 1 := ⟨k - 1, by omega⟩
      clear hk
      by_cases hj : j < l.length
      · rcases hao with hao | ⟨b, off, rfl, hc⟩
        · subst hao; simp at hj
        · have hck := hc j hj
          have HS := hide (fixed_step l j hj (by omega))
          have hy : (l.getD j 0).toNat < 256 := UInt8.toNat_lt _
          clear hc
          generalize (l.getD j 0).toNat = y at *
          generalize leTail l (j + 1) = z at *
          go_wp2
          go_round
          case rel =>
            refine ⟨j, by go_num, by omega, ?_⟩
            rw [IntKind.wrap_u64, IntKind.wrap_u64, HS.out]
          case measure => simp [intOf]
      · have HS := hide (leTail_out l j (by omega))
        go_wp2
        go_round
        case rel => exact ⟨j, by go_num, by omega, by rw [HS.out]⟩
        case measure => simp [intOf]

end Go.Proofs.YtanmjihiceibbaaGreat

/- Contracts of the document's answer for layer num, what it puts: groups, Put, PutSigned, Fix. -/
namespace Go.Proofs.YtanmjihiceibbaaGreat
open Go.RowKit

end Go.Proofs.YtanmjihiceibbaaGreat

/- Contracts of ferrymanref04: cut, find, without, with, pairs. -/
namespace Go.Proofs.YtanmjihiceibbaaGreat
open Go.RowKit

set_option maxRecDepth 100000 in
theorem refCut_any (n : Int) (w : World) : Calls Tryz.prog 87 #[.int .i64 n] w fun e w' => e = .returned (.int .i64 (cutZ n)) ∧ w' = w := by
  by_cases h1 : n < -1099511627776
  · have HE : Hid (cutZ n = -1099511627776) := if_pos h1
    go_enter Tryz.func87, Tryz.ntmps87
    go_wp2
    go_ret
    exact ⟨ret_i HE.out.symm, rfl⟩
  · by_cases h2 : 1099511627776 < n
    · have HE : Hid (cutZ n = 1099511627776) := by unfold cutZ; rw [if_neg h1, if_pos h2]; exact rfl
      go_enter Tryz.func87, Tryz.ntmps87
      go_wp2
      go_ret
      exact ⟨ret_i HE.out.symm, rfl⟩
    · have HE : Hid (cutZ n = n) := by unfold cutZ; rw [if_neg h1, if_neg h2]; exact rfl
      go_enter Tryz.func87, Tryz.ntmps87
      go_wp2
      go_ret
      exact ⟨ret_i HE.out.symm, rfl⟩

end Go.Proofs.YtanmjihiceibbaaGreat

/- Contract of ferrymanref04: Fits. -/
namespace Go.Proofs.YtanmjihiceibbaaGreat
open Go.RowKit

end Go.Proofs.YtanmjihiceibbaaGreat

/- Contracts of ferrymanref05: PutOp, GetOp. -/
namespace Go.Proofs.YtanmjihiceibbaaGreat
open Go.RowKit

/-- What is put: the bytes, and no error; or what was there, and ErrArg. -/
def Putted (w : World) (l : List UInt8) (o : Opn) (e : Ending) (w' : World) : Prop :=
  ∃ v', e = .returned (.tuple #[v', .int .i64 (if FitsO o then 0 else 1)]) ∧ Own w' w.heap.size v' (if FitsO o then l ++ putOpL o else l) ∧ Below w.heap.size w w'

theorem putOf_small {l : List UInt8} {n : Int} (h0 : 0 ≤ n) (h1 : n < 4611686018427387904) : putOf l n = l ++ Lib.uvarint n.toNat := if_pos ⟨h0, h1⟩

theorem uv10 {n : Int} (h : I64 n) : (Lib.uvarint (Lib.zigzag n)).length ≤ 10 := Lib.uvarint_length64 (zig_lt h)

theorem uv10' {n : Nat} (h : n < 4611686018427387904) : (Lib.uvarint n).length ≤ 10 := Lib.uvarint_length64 (by omega)

theorem two_new (w : World) (X Y : Obj) : ((w.alloc X).alloc Y).heap[w.heap.size + 1]? = some Y := by
  have h := heap_alloc_new (w.alloc X) Y
  have e : (w.alloc X).heap.size = w.heap.size + 1 := by simp
  rwa [e] at h

/-- What is got: the operation and how many bytes. -/
def Gotten (w : World) (l : List UInt8) (e : Ending) (w' : World) : Prop :=
  e = .returned (.tuple #[opV (getOpL l).1, .int .i64 ((getOpL l).2 : Nat)]) ∧ Below w.heap.size w w'

end Go.Proofs.YtanmjihiceibbaaGreat

/- Contracts of ferrymanref06: Fits, Upgrade, has. -/
namespace Go.Proofs.YtanmjihiceibbaaGreat
open Go.RowKit

/-- A record as a value. -/
def recV (r : Rec) : Value := .agg #[.int .i64 r.idx, .int .i64 r.proc, .int .i64 r.seq, .int .i64 r.op.code, .int .i64 r.op.a, .int .i64 r.op.b, .int .i64 r.resp]

/-- A record's cells. -/
def recC (r : Rec) : Array Value := #[.int .i64 r.idx, .int .i64 r.proc, .int .i64 r.seq, .int .i64 r.op.code, .int .i64 r.op.a, .int .i64 r.op.b, .int .i64 r.resp]

def RecOk (r : Rec) : Prop := I64 r.idx ∧ I64 r.proc ∧ I64 r.seq ∧ OpOk r.op ∧ I64 r.resp

/-- A record's box. -/
def Br (w : World) (b : Nat) (cs : Array Value) : Prop := w.heap[b]? = some (.cells cs 42 (0, 0))

theorem Br.lt {w : World} {b : Nat} {cs : Array Value} (h : Br w b cs) : b < w.heap.size := (Array.getElem?_eq_some_iff.1 h).1

theorem Br.below {w w' : World} {b B : Nat} {cs : Array Value} (h : Br w b cs) (hb : Below B w w') (hB : w.heap.size ≤ B) : Br w' b cs := (hb.block b (by have := h.lt; omega)).trans h

theorem Br.cell {w : World} {b : Nat} {cs : Array Value} (h : Br w b cs) (j : Nat) : w.cell? ⟨b, j, none⟩ = cs[j]? ∧ w.frozen? ⟨b, j, none⟩ = false := ⟨cell_of_row w b j _ _ _ h, frozen_of_row w b j _ _ h⟩

theorem hasB (v f : Nat) : (decide (hasV v f)) = ((f : Int) == 1 || (f : Int) == 2 || (f : Int) == 4 || ((f : Int) == 3 && decide ((2 : Int) ≤ v)) || ((f : Int) == 5 && (v : Int) == 3)) := by
  rw [Bool.eq_iff_iff]
  simp only [decide_eq_true_iff, Bool.or_eq_true, Bool.and_eq_true, beq_iff_eq]
  unfold hasV
  omega

end Go.Proofs.YtanmjihiceibbaaGreat

/- Contract of snapshot: Note. -/
namespace Go.Proofs.YtanmjihiceibbaaGreat
open Go.RowKit

set_option maxRecDepth 100000 in
set_option maxHeartbeats 1000000 in
theorem note1_any (r : Rec) (R : Nat) (e : Ent) (W : World) (hb : Br W R (recC r)) :
    Calls Tryz.prog 67 #[entV e, .pointer (some ⟨R, 0, none⟩)] W fun x w' => x = .returned (.bool (decide (e.proc = r.proc))) ∧ Below W.heap.size W w' := by
  have HB0 : Hid (∀ X, Below W.heap.size W (W.alloc X)) := fun X => (Below.refl _ _).alloc (Nat.le_refl _) X
  have hlt : R < W.heap.size := (Array.getElem?_eq_some_iff.1 hb).1
  have HC : Hid (∀ X, (W.alloc X).cell? ⟨R, 1, none⟩ = some (.int .i64 r.proc)) := hide (fun X => by
    rw [(HB0.out X).cell (p := ⟨R, 1, none⟩) hlt]
    exact cell_of_row W R 1 _ _ _ hb)
  obtain ⟨ep, es, er⟩ := e
  unfold entV
  simp only
  have hc := HC.out
  generalize r.proc = rp at *
  clear hb HC
  by_cases h : ep = rp
  · have HE : Hid (decide (ep = rp) = true) := decide_eq_true h
    have h' : (ep == rp) = true := beq_iff_eq.2 h
    rw [HE.out]
    clear HE h
    go_enter Tryz.func67, Tryz.ntmps67
    go_wp2
    go_ret
    exact ⟨rfl, HB0.out _⟩
  · have HE : Hid (decide (ep = rp) = false) := decide_eq_false h
    have h' : (ep == rp) = false := beq_eq_false_iff_ne.2 h
    rw [HE.out]
    clear HE h
    go_enter Tryz.func67, Tryz.ntmps67
    go_wp2
    go_ret
    exact ⟨rfl, HB0.out _⟩

set_option maxRecDepth 100000 in
set_option maxHeartbeats 1000000 in
theorem note2_any (r : Rec) (R : Nat) (e : Ent) (W : World) (hb : Br W R (recC r)) :
    Calls Tryz.prog 68 #[entV e, .pointer (some ⟨R, 0, none⟩)] W fun x w' => x = .returned (.bool (decide (r.proc < e.proc))) ∧ Below W.heap.size W w' := by
  have HB0 : Hid (∀ X, Below W.heap.size W (W.alloc X)) := fun X => (Below.refl _ _).alloc (Nat.le_refl _) X
  have hlt : R < W.heap.size := (Array.getElem?_eq_some_iff.1 hb).1
  have HC : Hid (∀ X, (W.alloc X).cell? ⟨R, 1, none⟩ = some (.int .i64 r.proc)) := hide (fun X => by
    rw [(HB0.out X).cell (p := ⟨R, 1, none⟩) hlt]
    exact cell_of_row W R 1 _ _ _ hb)
  obtain ⟨ep, es, er⟩ := e
  unfold entV
  simp only
  have hc := HC.out
  generalize r.proc = rp at *
  clear hb HC
  by_cases h : rp < ep
  · have HE : Hid (decide (rp < ep) = true) := decide_eq_true h
    rw [HE.out]
    clear HE
    go_enter Tryz.func68, Tryz.ntmps68
    go_wp2
    go_ret
    exact ⟨rfl, HB0.out _⟩
  · have HE : Hid (decide (rp < ep) = false) := decide_eq_false h
    rw [HE.out]
    clear HE
    go_enter Tryz.func68, Tryz.ntmps68
    go_wp2
    go_ret
    exact ⟨rfl, HB0.out _⟩

theorem placeE_any {p : Int} {t : List Ent} {k : Int} (h : FoundE (fun e => decide (p < e.proc)) t k) : (k < 0 ∧ firstG p t = t.length) ∨ (0 ≤ k ∧ k = (firstG p t : Nat)) := by
  rcases h with ⟨rfl, h⟩ | ⟨i, rfl, hi, h1, h2⟩
  · exact .inl ⟨by omega, firstG_all (fun j hj => of_decide_eq_false (h j hj))⟩
  · refine .inr ⟨by omega, ?_⟩
    rw [firstG_at hi (fun j hj => of_decide_eq_false (h1 j hj)) (of_decide_eq_true h2)]

theorem butP_mem {p : Int} {t : List Ent} {P : Ent → Prop} (h : ∀ e ∈ t, P e) : ∀ e ∈ butP p t, P e := fun e he => h e (List.mem_filter.1 he).1

set_option maxRecDepth 100000 in
set_option maxHeartbeats 4000000 in
theorem noteN_any (v : Value) (t : List Ent) (r : Rec) (w : World) (hr : RdE w v t) (hok : RecOk r) (hlim : t.length ≤ 2000) :
    Calls Tryz.prog 37 #[v, recV r] w fun e w' => ∃ v', e = .returned v' ∧ OwnE w' w.heap.size v' (noteL t ⟨r.proc, r.seq, r.resp⟩) ∧ Below w.heap.size w w' := by
  have hTI : ∀ e ∈ t, EntI e := hr.choose_spec.choose_spec.2.2.2.2.1
  have HTI := hide hTI
  have HX : Hid (Br (w.alloc (.cells (recC r) 42)) w.heap.size (recC r)) := hide (heap_alloc_new w _)
  have HB0 : Hid (Below w.heap.size w (w.alloc (.cells (recC r) 42))) := hide ((Below.refl _ _).alloc (Nat.le_refl _) _)
  have hsz : (w.alloc (.cells (recC r) 42)).heap.size = w.heap.size + 1 := by simp
  have HR := hide (hr.below HB0.out (Nat.le_refl _))
  have HEI : Hid (EntI ⟨r.proc, r.seq, r.resp⟩) := hide ⟨hok.2.1, hok.2.2.1, hok.2.2.2.2⟩
  have eg1 : ∀ args W, (callFunc 67 args).run Tryz.prog W = .ok (.enter 67 args) W := enters_of Tryz.func67 (by kernel_rfl) rfl
  have eg2 : ∀ args W, (callFunc 68 args).run Tryz.prog W = .ok (.enter 68 args) W := enters_of Tryz.func68 (by kernel_rfl) rfl
  have HEG1 := hide eg1
  have HEG2 := hide eg2
  have HNI : Hid (noteL t ⟨r.proc, r.seq, r.resp⟩ = (butP r.proc t).take (firstG r.proc (butP r.proc t)) ++ (⟨r.proc, r.seq, r.resp⟩ :: (butP r.proc t).drop (firstG r.proc (butP r.proc t)))) := hide (noteL_ins ⟨r.proc, r.seq, r.resp⟩ t)
  have HBT : Hid (t.filter (fun e => !decide (e.proc = r.proc)) = butP r.proc t) := hide (by unfold butP; simp)
  have HN1 := hide (fun W e h => note1_any r w.heap.size e W h)
  have HN2 := hide (fun W e h => note2_any r w.heap.size e W h)
  have HXB : Hid (∀ W, Below (w.heap.size + 1) (w.alloc (.cells (recC r) 42)) W → Br W w.heap.size (recC r)) := hide (fun W h => (h.block w.heap.size (by omega)).trans HX.out)
  have hmf : ∀ (fn : Fn) (first cap : Array Value) (w : World), (Instr.makeFunc fn first cap).run Tryz.prog w = .ok (.func fn first cap) w := fun _ _ _ _ => rfl
  have HCL := hide (fun W v l h h2 => cloneE_any v l W h h2)
  clear eg1 eg2 hTI hok hr
  unfold recV recC at *
  go_enter Tryz.func37, Tryz.ntmps37
  go_wp2_with fail
  refine (HCL.out _ _ t HR.out (by omega)).mono ?_
  rintro x W1 ⟨v1, rfl, ho1, hb1⟩
  rw [hsz] at ho1 hb1
  have HO1 := hide ho1
  have HB1 := hide hb1
  clear ho1 hb1
  have HDE := hide (deleteFuncE_any 67 w.heap.size (fun e => decide (e.proc = r.proc)) v1 t (w.heap.size + 1) W1 HO1.out HTI.out (by have := HB1.out.size; omega) (by omega) HEG1.out (fun W e h => HN1.out W e (HXB.out W (HB1.out.trans h))))
  go_wp2_with fail
  refine HDE.out.mono ?_
  rintro x W2 ⟨v2, rfl, ho2, hb2⟩
  rw [HBT.out] at ho2
  have HO2 := hide ho2
  have HB2 := hide (HB1.out.trans hb2)
  have HT2 := hide (butP_mem (p := r.proc) HTI.out)
  have hl2 : (butP r.proc t).length ≤ 2000 := Nat.le_trans (butP_len _ _) hlim
  clear ho2 hb2 HDE HO1 HB1 HR HTI HBT
  obtain ⟨bt, hbt⟩ : ∃ bt, bt = butP r.proc t := ⟨_, rfl⟩
  rw [← hbt] at HO2 HT2 HNI hl2
  clear hbt
  have HIX := hide (indexFuncE_any 68 w.heap.size (fun e => decide (r.proc < e.proc)) v2 bt W2 (HO2.out.rd HT2.out) HEG2.out (fun W e h => HN2.out W e (HXB.out W (HB2.out.trans (h.mono (by have := HB2.out.size; omega))))))
  obtain ⟨va, vc, hv2⟩ := HO2.out.shape
  subst hv2
  go_wp2_with fail
  refine HIX.out.mono ?_
  rintro x W3 ⟨k, rfl, hf, hb3⟩
  have HO3 := hide (HO2.out.below hb3 (Nat.le_refl _))
  have HB3 := hide (HB2.out.trans (hb3.mono (by have := HB2.out.size; omega)))
  have HX3 := hide (HXB.out W3 HB3.out)
  have HBW := hide (HB0.out.trans (HB3.out.mono (by omega)))
  have hs3 : w.heap.size + 1 ≤ W3.heap.size := by have := HB3.out.size; omega
  clear hb3 HIX HO2 HB2
  obtain ⟨q1, f1⟩ := HX3.out.cell 1
  obtain ⟨q2, f2⟩ := HX3.out.cell 2
  obtain ⟨q4, f4⟩ := HX3.out.cell 6
  have hfl := firstG_le r.proc bt
  have HIN := hide (fun I hI N hN => insertE_any (.slice va bt.length vc) bt (w.heap.size + 1) W3 HO3.out hs3 (by omega) (firstG r.proc bt) hfl ⟨r.proc, r.seq, r.resp⟩ HEI.out I hI N hN)
  rw [← HNI.out] at HIN
  unfold entC at HIN
  have hbl : (bt.length : Int) ≤ 2000 := by omega
  rcases placeE_any hf with ⟨hk, hE⟩ | ⟨hk, hE⟩
  · clear hf
    have HE2 := hide hE
    clear hE hfl hl2 hlim
    go_wp2_with fail
    refine (HIN.out _ (by rw [HE2.out]) _ rfl).mono ?_
    rintro x W4 ⟨v4, rfl, ho4, hb4⟩
    have HO4 := hide (ho4.mono (B' := w.heap.size) (by omega))
    have HB4 := hide (HBW.out.trans (hb4.mono (by omega)))
    clear ho4 hb4
    go_wp2
    go_ret
    exact ⟨_, rfl, HO4.out, HB4.out⟩
  · clear hf
    have hkn : ¬ k < 0 := by omega
    have HE2 := hide hE
    clear hE hfl hl2 hlim
    go_wp2_with fail
    refine (HIN.out _ HE2.out _ rfl).mono ?_
    rintro x W4 ⟨v4, rfl, ho4, hb4⟩
    have HO4 := hide (ho4.mono (B' := w.heap.size) (by omega))
    have HB4 := hide (HBW.out.trans (hb4.mono (by omega)))
    clear ho4 hb4
    go_wp2
    go_ret
    exact ⟨_, rfl, HO4.out, HB4.out⟩

end Go.Proofs.YtanmjihiceibbaaGreat

/- Contract of ferrymanref04.pairs. -/
namespace Go.Proofs.YtanmjihiceibbaaGreat
open Go.RowKit

set_option maxRecDepth 100000 in
set_option maxHeartbeats 2000000 in
theorem refPairs_any (v : Value) (l : List Int) (least : Int) (w : World) (hr : RdI w v l) :
    Calls Tryz.prog 86 #[v, .int .i64 least] w fun e w' => e = .returned (.bool (decide (PairsOk least l))) ∧ Below w.heap.size w w' := by
  obtain ⟨ao, cap, rfl, hlc, hcm, hn0, hi, hao⟩ := hr
  clear hn0 hi
  have hml : (l.length : Int) ≤ 9223372036854775807 := by unfold maxLen at hcm; omega
  have HAO := hide' hao
  clear hao hlc hcm
  by_cases h2 : l.length % 2 = 0
  · have h2' : ((l.length : Int).tmod 2 != 0) = false := by
      rw [bne_eq_false_iff_eq, Int.tmod_eq_emod_of_nonneg (by omega)]
      omega
    by_cases h128 : (l.length : Int) ≤ 128
    · go_enter Tryz.func86, Tryz.ntmps86
      go_wp2
      go_loopw [5] (fun i wr => ∃ k : Nat, i = .int .i64 k ∧ k ≤ l.length ∧ k % 2 = 0 ∧ Hid (∀ j, j < k → j % 2 = 0 → PairAt least l j) ∧ Hid (Below w.heap.size w wr)) (fun i _ => l.length - (intOf i).toNat)
      case atStart => exact ⟨0, rfl, by omega, rfl, fun j hj => by omega, Below.refl _ _⟩
      case round =>
        obtain ⟨k, rfl, hkl, hk2, hall, hb⟩ := hrel
        by_cases hlt : k < l.length
        · rcases HAO.out with hao | ⟨b, off, rfl, hc⟩
          · subst hao; simp at hlt
          have hcc : ∀ j, j < l.length → wr.cell? ⟨b, off + j, none⟩ = some (.int .i64 (l.getD j 0)) := fun j hj => by
            rw [hb.out.cell (World.block_lt_of_cell? w ⟨b, off + j, none⟩ (hc j hj))]; exact hc j hj
          have hc0 := hcc k hlt
          have hc1 := hcc (k + 1) (by omega)
          have hc2 := hcc (k - 2) (by omega)
          have hbk : (k : Int) < (l.length : Int) := by omega
          have hbk1 : (k : Int) + 1 < (l.length : Int) := by omega
          have HP : Hid (PairAt least l k ↔ (0 ≤ l.getD k 0 ∧ l.getD k 0 ≤ 255 ∧ (0 < k → l.getD (k - 2) 0 < l.getD k 0) ∧ least ≤ l.getD (k + 1) 0 ∧ l.getD (k + 1) 0 ≤ 1099511627776)) := Iff.rfl
          clear hc hcc
          generalize l.getD k 0 = y at *
          generalize l.getD (k + 1) 0 = z at *
          generalize l.getD (k - 2) 0 = x at *
          have HBd : Hid (Below w.heap.size w wr.drew) := hb.out.drew
          go_upto_region 6 with fail
          go_cut [65] (fun c wc => c = .bool (decide (¬ PairAt least l k)) ∧ Hid (Below w.heap.size w wc))
          case first =>
            by_cases g1 : y < 0
            · go_quiet (fail)
              go_wp2
              go_meet
              refine ⟨congrArg Value.bool ?_, below_drewN hb.out _⟩
              exact (decide_eq_true (p := ¬ PairAt least l k) (fun h => by have := HP.out.1 h; omega)).symm
            have d1 : decide (y < 0) = false := decide_eq_false g1
            by_cases g2 : 255 < y
            · go_quiet (fail)
              go_wp2
              go_meet
              refine ⟨congrArg Value.bool ?_, below_drewN hb.out _⟩
              exact (decide_eq_true (p := ¬ PairAt least l k) (fun h => by have := HP.out.1 h; omega)).symm
            have d2 : decide (255 < y) = false := decide_eq_false g2
            by_cases g3 : 0 < k
            · have g3' : (0 : Int) < (k : Int) := by omega
              have e2 : (k : Int) - 2 = ((k - 2 : Nat) : Int) := by omega
              by_cases g4 : y ≤ x
              · go_quiet (fail)
                go_wp2
                go_meet
                refine ⟨congrArg Value.bool ?_, below_drewN hb.out _⟩
                exact (decide_eq_true (p := ¬ PairAt least l k) (fun h => by have := HP.out.1 h; omega)).symm
              have d4 : decide (y ≤ x) = false := decide_eq_false g4
              by_cases g5 : z < least
              · go_quiet (fail)
                go_wp2
                go_meet
                refine ⟨congrArg Value.bool ?_, below_drewN hb.out _⟩
                exact (decide_eq_true (p := ¬ PairAt least l k) (fun h => by have := HP.out.1 h; omega)).symm
              have d5 : decide (z < least) = false := decide_eq_false g5
              by_cases g6 : 1099511627776 < z
              · go_quiet (fail)
                go_wp2
                go_meet
                refine ⟨congrArg Value.bool ?_, below_drewN hb.out _⟩
                exact (decide_eq_true (p := ¬ PairAt least l k) (fun h => by have := HP.out.1 h; omega)).symm
              have d6 : decide (1099511627776 < z) = false := decide_eq_false g6
              go_quiet (fail)
              go_wp2
              go_meet
              refine ⟨congrArg Value.bool ?_, below_drewN hb.out _⟩
              exact (decide_eq_false (p := ¬ PairAt least l k) (fun h => h (HP.out.2 (by omega)))).symm
            · have d3 : decide ((0 : Int) < (k : Int)) = false := decide_eq_false (by omega)
              by_cases g5 : z < least
              · go_quiet (fail)
                go_wp2
                go_meet
                refine ⟨congrArg Value.bool ?_, below_drewN hb.out _⟩
                exact (decide_eq_true (p := ¬ PairAt least l k) (fun h => by have := HP.out.1 h; omega)).symm
              have d5 : decide (z < least) = false := decide_eq_false g5
              by_cases g6 : 1099511627776 < z
              · go_quiet (fail)
                go_wp2
                go_meet
                refine ⟨congrArg Value.bool ?_, below_drewN hb.out _⟩
                exact (decide_eq_true (p := ¬ PairAt least l k) (fun h => by have := HP.out.1 h; omega)).symm
              have d6 : decide (1099511627776 < z) = false := decide_eq_false g6
              go_quiet (fail)
              go_wp2
              go_meet
              refine ⟨congrArg Value.bool ?_, below_drewN hb.out _⟩
              exact (decide_eq_false (p := ¬ PairAt least l k) (fun h => h (HP.out.2 (by omega)))).symm
          case rest =>
          obtain ⟨rfl, HB6⟩ := hcut
          by_cases hP : PairAt least l k
          · have hd : decide (¬ PairAt least l k) = false := decide_eq_false (fun h => h hP)
            have HPP := hide' hP
            rw [hd]
            clear hP hd HP hc0 hc1 hc2
            go_wp2
            go_roundw
            case rel =>
              refine ⟨k + 2, by go_num, by omega, by omega, fun j hj h2j => ?_, HB6⟩
              by_cases e : j = k
              · rw [e]; exact HPP.out
              · exact hall.out j (by omega) h2j
            case measure => simp [intOf]; omega
          · have hd : decide (¬ PairAt least l k) = true := decide_eq_true hP
            have HPP := hide' hP
            rw [hd]
            clear hP hd HP hc0 hc1 hc2
            go_wp2
            go_ret
            exact ⟨ret_b (decide_eq_false (p := PairsOk least l) (fun h => HPP.out (h.2.2 k hlt hk2))).symm, HB6.out⟩
        · go_wp2
          go_ret
          exact ⟨ret_b (decide_eq_true (p := PairsOk least l) ⟨h2, by omega, fun j hj => hall.out j (by omega)⟩).symm, hb.out⟩
    · go_enter Tryz.func86, Tryz.ntmps86
      go_wp2
      go_ret
      exact ⟨ret_b (decide_eq_false (p := PairsOk least l) (fun h => by have := h.2.1; omega)).symm, Below.refl _ _⟩
  · have h2' : ((l.length : Int).tmod 2 != 0) = true := by
      rw [bne_iff_ne, Ne, Int.tmod_eq_emod_of_nonneg (by omega)]
      omega
    go_enter Tryz.func86, Tryz.ntmps86
    go_wp2
    go_ret
    exact ⟨ret_b (decide_eq_false (p := PairsOk least l) (fun h => h2 h.1)).symm, Below.refl _ _⟩

end Go.Proofs.YtanmjihiceibbaaGreat

/- Contracts of ferrymanref04: May. -/
namespace Go.Proofs.YtanmjihiceibbaaGreat
open Go.RowKit

set_option maxRecDepth 100000 in
set_option maxHeartbeats 2000000 in
theorem refMay_any (v : Value) (s : St) (w : World) (hs : StV w v s) :
    Calls Tryz.prog 55 #[v] w fun e w' => e = .returned (.bool (decide (MayS s))) ∧ Below w.heap.size w w' := by
  obtain ⟨vl, rfl, hr, _, _⟩ := hs
  have HR := hide' hr
  have HP := hide' (fun w1 least (h : RdI w1 vl s.L) => refPairs_any vl s.L least w1 h)
  have HBA : Hid (∀ o, Below w.heap.size w (w.alloc o)) := fun o => (Below.refl _ _).alloc (Nat.le_refl _) o
  obtain ⟨ao, cap, rfl, hlc, hcm, hn0, hi, hao⟩ := hr
  have hml : (s.L.length : Int) ≤ 9223372036854775807 := by unfold maxLen at hcm; omega
  have HAO := hide' hao
  have HI := hide' hi
  clear hao hlc hcm hi hn0
  have HM := hide' (may_bad1 (s := s))
  have HN := hide' (may_nums (s := s))
  obtain ⟨kind, l, shut, g⟩ := s
  simp only at *
  by_cases hbad : g < 0 ∨ 2 < g ∨ (shut = false ∧ g ≠ 0) ∨ kind < 0 ∨ 6 ≤ kind
  · have HF : Hid (decide (MayS ⟨kind, l, shut, g⟩) = false) := decide_eq_false (HM.out hbad)
    have hc : (g < 0) ∨ (0 ≤ g ∧ 2 < g) ∨ (0 ≤ g ∧ g ≤ 2 ∧ shut = false ∧ (g != 0) = true) ∨ (0 ≤ g ∧ g ≤ 2 ∧ (shut = false ∧ g = 0) ∧ kind < 0) ∨ (0 ≤ g ∧ g ≤ 2 ∧ shut = true ∧ kind < 0) ∨ (0 ≤ g ∧ g ≤ 2 ∧ (shut = false ∧ g = 0) ∧ 0 ≤ kind ∧ 6 ≤ kind) ∨ (0 ≤ g ∧ g ≤ 2 ∧ shut = true ∧ 0 ≤ kind ∧ 6 ≤ kind) := by
      cases shut <;> simp at hbad ⊢ <;> omega
    clear hbad HM HN HP HAO HR HI
    rcases hc with h | ⟨h1, h2⟩ | ⟨h1, h2, rfl, h3⟩ | ⟨h1, h2, ⟨rfl, rfl⟩, h3⟩ | ⟨h1, h2, rfl, h3⟩ | ⟨h1, h2, ⟨rfl, rfl⟩, h3, h4⟩ | ⟨h1, h2, rfl, h3, h4⟩
    all_goals
      go_enter Tryz.func55, Tryz.ntmps55
      go_wp2
      go_ret
      exact ⟨ret_b HF.out.symm, HBA.out _⟩
  · have HF : Hid (MayS ⟨kind, l, shut, g⟩ ↔ NumsOk kind l) := HN.out (by omega) (by omega) (fun h => by
      cases shut
      · simp at hbad; omega
      · simp at h) (by omega) (by omega)
    have hg : 0 ≤ g ∧ g ≤ 2 ∧ 0 ≤ kind ∧ kind < 6 := by omega
    have hc : (shut = false ∧ g = 0) ∨ shut = true := by
      cases shut <;> simp at hbad ⊢ <;> omega
    obtain ⟨h1, h2, h3, h4⟩ := hg
    clear hbad HM HN
    by_cases k4 : kind = 4
    · subst k4
      have HD : Hid (decide (MayS ⟨4, l, shut, g⟩) = decide (PairsOk (-1099511627776) l)) := by
        rw [decide_eq_decide]
        exact HF.out
      rcases hc with ⟨rfl, rfl⟩ | rfl
      all_goals
        go_enter Tryz.func55, Tryz.ntmps55
        go_wp2_with fail
        refine (HP.out _ _ (HR.out.below (HBA.out _) (Nat.le_refl _))).mono ?_
        rintro e w2 ⟨rfl, hb2⟩
        have HB2 := hide' ((HBA.out _).trans (hb2.mono (HBA.out _).size))
        clear hb2
        go_wp2
        go_ret
        exact ⟨ret_b HD.out.symm, HB2.out⟩
    · by_cases k5 : kind = 5
      · subst k5
        have HD : Hid (decide (MayS ⟨5, l, shut, g⟩) = decide (PairsOk 0 l)) := by
          rw [decide_eq_decide]
          exact HF.out
        rcases hc with ⟨rfl, rfl⟩ | rfl
        all_goals
          go_enter Tryz.func55, Tryz.ntmps55
          go_wp2_with fail
          refine (HP.out _ _ (HR.out.below (HBA.out _) (Nat.le_refl _))).mono ?_
          rintro e w2 ⟨rfl, hb2⟩
          have HB2 := hide' ((HBA.out _).trans (hb2.mono (HBA.out _).size))
          clear hb2
          go_wp2
          go_ret
          exact ⟨ret_b HD.out.symm, HB2.out⟩
      · have HFN : Hid (MayS ⟨kind, l, shut, g⟩ ↔ (l.length ≤ 64 ∧ (kind ≤ 1 → l.length = 1) ∧ InBounds l)) := by
          have h := HF.out
          unfold NumsOk at h
          rwa [if_neg k4, if_neg k5] at h
        have e4 : (kind == 4) = false := beq_eq_false_iff_ne.2 k4
        have e5 : (kind == 5) = false := beq_eq_false_iff_ne.2 k5
        clear k4 k5 HF HP
        by_cases hlen : (64 : Int) < l.length
        · have HD : Hid (decide (MayS ⟨kind, l, shut, g⟩) = false) := decide_eq_false (fun h => by have := (HFN.out.1 h).1; omega)
          rcases hc with ⟨rfl, rfl⟩ | rfl
          all_goals
            go_enter Tryz.func55, Tryz.ntmps55
            go_wp2
            go_ret
            exact ⟨ret_b HD.out.symm, HBA.out _⟩
        · by_cases hone : l.length = 1 ∨ 1 < kind
          · have HC : Hid (∀ n w, Calls Tryz.prog 87 #[.int .i64 n] w fun e w' => e = .returned (.int .i64 (cutZ n)) ∧ w' = w) := fun n w => refCut_any n w
            have h1c : ((l.length : Int) != 1) = false ∨ (((l.length : Int) != 1) = true ∧ 1 < kind) := by
              by_cases e : l.length = 1
              · left
                rw [bne_eq_false_iff_eq]
                omega
              · right
                refine ⟨?_, by omega⟩
                rw [bne_iff_ne]
                omega
            have HON := hide' hone
            clear hone
            rcases h1c with h1c | ⟨h1c, h1d⟩
            all_goals
              rcases hc with ⟨rfl, rfl⟩ | rfl
              all_goals
                go_enter Tryz.func55, Tryz.ntmps55
                go_wp2
                go_loopw [3] (fun i wr => ∃ k : Nat, i = .int .i64 k ∧ k ≤ l.length ∧ Hid (∀ j, j < k → -1099511627776 ≤ l.getD j 0 ∧ l.getD j 0 ≤ 1099511627776) ∧ Hid (wr.cell? ⟨w.heap.size, 1, none⟩ = some (.slice ao l.length cap)) ∧ Hid (Below w.heap.size w wr)) (fun i _ => l.length - (intOf i).toNat)
                case atStart => exact ⟨0, rfl, by omega, fun j hj => by omega, cell_of_row _ w.heap.size 1 _ _ (0, 0) (heap_alloc_new w _), HBA.out _⟩
                case round =>
                  obtain ⟨k, rfl, hkl, hall, hbox, hb⟩ := hrel
                  have hbx := hbox.out
                  by_cases hlt : k < l.length
                  · rcases HAO.out with hao | ⟨b, off, rfl, hc⟩
                    · subst hao; simp at hlt
                    have hc0 : wr.cell? ⟨b, off + k, none⟩ = some (.int .i64 (l.getD k 0)) := by
                      rw [hb.out.cell (World.block_lt_of_cell? w ⟨b, off + k, none⟩ (hc k hlt))]; exact hc k hlt
                    have HCE := hide' (cutZ_eq (l.getD k 0))
                    obtain ⟨y, hy⟩ : ∃ y, y = l.getD k 0 := ⟨_, rfl⟩
                    rw [← hy] at hc0 HCE
                    have HY := hide' hy
                    clear hc hy
                    by_cases hq : y = cutZ y
                    · have hqb : (y != cutZ y) = false := by rw [bne_eq_false_iff_eq]; exact hq
                      have HQ := hide' (HCE.out.1 hq)
                      clear hq
                      go_wp2
                      go_quiet ((go_at_call 87; exact Calls.quiet_of_same (HC.out _ _)))
                      go_wp2
                      go_roundw
                      case rel =>
                        refine ⟨k + 1, by go_num, by omega, fun j hj => ?_, hbx, below_drewN hb.out _⟩
                        by_cases e : j = k
                        · rw [e, ← HY.out]; exact HQ.out
                        · exact hall.out j (by omega)
                      case measure => simp [intOf]; omega
                    · have hqb : (y != cutZ y) = true := by rw [bne_iff_ne]; exact hq
                      have HQ : Hid (¬ (-1099511627776 ≤ y ∧ y ≤ 1099511627776)) := fun h => hq (HCE.out.2 h)
                      clear hq
                      go_wp2
                      go_quiet ((go_at_call 87; exact Calls.quiet_of_same (HC.out _ _)))
                      go_wp2
                      go_ret
                      refine ⟨ret_b (decide_eq_false (fun h => HQ.out ?_)).symm, below_drewN hb.out _⟩
                      have := (HFN.out.1 h).2.2 k hlt
                      rwa [← HY.out] at this
                  · go_wp2
                    go_ret
                    refine ⟨ret_b (decide_eq_true (HFN.out.2 ⟨by omega, fun h => ?_, fun j hj => hall.out j (by omega)⟩)).symm, hb.out⟩
                    rcases HON.out with h' | h'
                    · exact h'
                    · omega
          · have hk1 : kind ≤ 1 := by omega
            have h1c : ((l.length : Int) != 1) = true := by rw [bne_iff_ne]; omega
            have HD : Hid (decide (MayS ⟨kind, l, shut, g⟩) = false) := decide_eq_false (fun h => by have := (HFN.out.1 h).2.1; omega)
            clear hone
            rcases hc with ⟨rfl, rfl⟩ | rfl
            all_goals
              go_enter Tryz.func55, Tryz.ntmps55
              go_wp2
              go_ret
              exact ⟨ret_b HD.out.symm, HBA.out _⟩

end Go.Proofs.YtanmjihiceibbaaGreat

/- Contracts of ferrymanref04: Fits, Same. -/
namespace Go.Proofs.YtanmjihiceibbaaGreat
open Go.RowKit

set_option maxRecDepth 100000 in
set_option maxHeartbeats 2000000 in
theorem refSameS_any (va : Value) (a : St) (vb : Value) (b : St) (w : World) (ha : StV w va a) (hb : StV w vb b) :
    Calls Tryz.prog 24 #[va, vb] w fun e w' => e = .returned (.bool (decide (SameS a b))) ∧ Below w.heap.size w w' := by
  obtain ⟨vla, rfl, hra, _, _⟩ := ha
  obtain ⟨vlb, rfl, hrb, _, _⟩ := hb
  have HBA : Hid (∀ x y, Below w.heap.size w ((w.alloc x).alloc y)) := fun x y => ((Below.refl _ _).alloc (Nat.le_refl _) x).alloc (by simp) y
  obtain ⟨ao, cap, rfl, hlc, hcm, hn0, hi, hao⟩ := hra
  obtain ⟨bo, bcap, rfl, hlc', hcm', hn0', hi', hbo⟩ := hrb
  have hml : (a.L.length : Int) ≤ 9223372036854775807 := by unfold maxLen at hcm; omega
  have HAO := hide' hao
  have HBO := hide' hbo
  clear hao hbo hlc hcm hlc' hcm' hi hi' hn0 hn0'
  have HDF : Hid (SameS a b ↔ a.kind = b.kind ∧ a.shut = b.shut ∧ a.eng = b.eng ∧ a.L = b.L) := Iff.rfl
  obtain ⟨ka, la, sa, ga⟩ := a
  obtain ⟨kb, lb, sb, gb⟩ := b
  simp only at *
  have hc : ((ka != kb) = true) ∨ ((ka != kb) = false ∧ (sa != sb) = true) ∨ ((ka != kb) = false ∧ (sa != sb) = false ∧ (ga != gb) = true) ∨ ((ka != kb) = false ∧ (sa != sb) = false ∧ (ga != gb) = false ∧ ((la.length : Int) != (lb.length : Int)) = true) ∨ ((ka != kb) = false ∧ (sa != sb) = false ∧ (ga != gb) = false ∧ ((la.length : Int) != (lb.length : Int)) = false) := by
    cases (ka != kb) <;> cases (sa != sb) <;> cases (ga != gb) <;> cases ((la.length : Int) != (lb.length : Int)) <;> simp
  rcases hc with h1 | ⟨h1, h2⟩ | ⟨h1, h2, h3⟩ | ⟨h1, h2, h3, h4⟩ | ⟨h1, h2, h3, h4⟩
  · have HD : Hid (decide (SameS ⟨ka, la, sa, ga⟩ ⟨kb, lb, sb, gb⟩) = false) := decide_eq_false (fun h => by rw [bne_iff_ne] at h1; exact h1 (HDF.out.1 h).1)
    go_enter Tryz.func24, Tryz.ntmps24
    go_wp2
    go_ret
    exact ⟨ret_b HD.out.symm, HBA.out _ _⟩
  · have HD : Hid (decide (SameS ⟨ka, la, sa, ga⟩ ⟨kb, lb, sb, gb⟩) = false) := decide_eq_false (fun h => by rw [bne_iff_ne] at h2; exact h2 (HDF.out.1 h).2.1)
    have h2' : (sa = true ∧ sb = false) ∨ (sa = false ∧ sb = true) := by
      cases sa <;> cases sb <;> simp at h2 ⊢
    clear h2
    rcases h2' with ⟨rfl, rfl⟩ | ⟨rfl, rfl⟩
    all_goals
      go_enter Tryz.func24, Tryz.ntmps24
      go_wp2
      go_ret
      exact ⟨ret_b HD.out.symm, HBA.out _ _⟩
  · have HD : Hid (decide (SameS ⟨ka, la, sa, ga⟩ ⟨kb, lb, sb, gb⟩) = false) := decide_eq_false (fun h => by rw [bne_iff_ne] at h3; exact h3 (HDF.out.1 h).2.2.1)
    obtain rfl : sa = sb := by simpa using h2
    clear h2
    cases sa
    all_goals
      go_enter Tryz.func24, Tryz.ntmps24
      go_wp2
      go_ret
      exact ⟨ret_b HD.out.symm, HBA.out _ _⟩
  · have HD : Hid (decide (SameS ⟨ka, la, sa, ga⟩ ⟨kb, lb, sb, gb⟩) = false) := decide_eq_false (fun h => by rw [bne_iff_ne] at h4; exact h4 (by rw [(HDF.out.1 h).2.2.2]))
    obtain rfl : sa = sb := by simpa using h2
    clear h2
    cases sa
    all_goals
      go_enter Tryz.func24, Tryz.ntmps24
      go_wp2
      go_ret
      exact ⟨ret_b HD.out.symm, HBA.out _ _⟩
  · have HE : Hid (ka = kb ∧ sa = sb ∧ ga = gb ∧ la.length = lb.length) := by
      rw [bne_eq_false_iff_eq] at h1 h2 h3 h4
      exact ⟨h1, h2, h3, by omega⟩
    obtain rfl : sa = sb := HE.out.2.1
    clear h2
    go_enter Tryz.func24, Tryz.ntmps24
    go_wp2
    go_loopw [5] (fun i wr => ∃ k : Nat, i = .int .i64 k ∧ k ≤ la.length ∧ Hid (∀ j, j < k → la.getD j 0 = lb.getD j 0) ∧ Hid (wr.cell? ⟨w.heap.size, 1, none⟩ = some (.slice ao la.length cap)) ∧ Hid (wr.cell? ⟨w.heap.size + 1, 1, none⟩ = some (.slice bo lb.length bcap)) ∧ Hid (Below w.heap.size w wr)) (fun i _ => la.length - (intOf i).toNat)
    case atStart =>
      refine ⟨0, rfl, by omega, fun j hj => by omega, ?_, ?_, HBA.out _ _⟩
      · show World.cell? _ _ = _
        simp
      · show World.cell? _ _ = _
        simp
    case round =>
      obtain ⟨k, rfl, hkl, hall, hbox, hbox2, hb⟩ := hrel
      have hbx := hbox.out
      have hbx2 := hbox2.out
      by_cases hlt : k < la.length
      · rcases HAO.out with hao | ⟨b1, o1, rfl, hc1⟩
        · subst hao; simp at hlt
        rcases HBO.out with hao | ⟨b2, o2, rfl, hc2⟩
        · have e0 : lb.length = 0 := by rw [hao]; rfl
          have := HE.out.2.2.2
          omega
        have hc0 : wr.cell? ⟨b1, o1 + k, none⟩ = some (.int .i64 (la.getD k 0)) := by
          rw [hb.out.cell (World.block_lt_of_cell? w ⟨b1, o1 + k, none⟩ (hc1 k hlt))]; exact hc1 k hlt
        have hc0' : wr.cell? ⟨b2, o2 + k, none⟩ = some (.int .i64 (lb.getD k 0)) := by
          rw [hb.out.cell (World.block_lt_of_cell? w ⟨b2, o2 + k, none⟩ (hc2 k (by have := HE.out.2.2.2; omega)))]; exact hc2 k (by have := HE.out.2.2.2; omega)
        obtain ⟨y, hy⟩ : ∃ y, y = la.getD k 0 := ⟨_, rfl⟩
        obtain ⟨z, hz⟩ : ∃ z, z = lb.getD k 0 := ⟨_, rfl⟩
        rw [← hy] at hc0
        rw [← hz] at hc0'
        have HY := hide' hy
        have HZ := hide' hz
        have hlb : (k : Int) < (lb.length : Int) := by have := HE.out.2.2.2; omega
        clear hc1 hc2 hy hz
        by_cases hq : y = z
        · have hqb : (y != z) = false := by rw [bne_eq_false_iff_eq]; exact hq
          have HQ := hide' hq
          clear hq
          go_wp2
          go_quiet (fail)
          go_wp2
          go_roundw
          case rel =>
            refine ⟨k + 1, by go_num, by omega, fun j hj => ?_, hbx, hbx2, below_drewN hb.out _⟩
            by_cases e : j = k
            · rw [e, ← HY.out, ← HZ.out]; exact HQ.out
            · exact hall.out j (by omega)
          case measure => simp [intOf]; omega
        · have hqb : (y != z) = true := by rw [bne_iff_ne]; exact hq
          have HQ := hide' hq
          clear hq
          go_wp2
          go_quiet (fail)
          go_wp2
          go_ret
          refine ⟨ret_b (decide_eq_false (fun h => HQ.out ?_)).symm, below_drewN hb.out _⟩
          rw [HY.out, HZ.out, (HDF.out.1 h).2.2.2]
      · go_wp2
        go_ret
        refine ⟨ret_b (decide_eq_true (HDF.out.2 ⟨HE.out.1, HE.out.2.1, HE.out.2.2.1, getD_ext_int la lb HE.out.2.2.2 (fun j hj => hall.out j (by omega))⟩)).symm, hb.out⟩

end Go.Proofs.YtanmjihiceibbaaGreat

/- Contracts of ferrymanref09: Table, May, Same. -/
namespace Go.Proofs.YtanmjihiceibbaaGreat
open Go.RowKit

set_option maxRecDepth 100000 in
set_option maxHeartbeats 4000000 in
theorem refTable_any (v : Value) (l : List Ent) (w : World) (hr : RdE w v l) :
    Calls Tryz.prog 56 #[v] w fun e w' => e = .returned (.bool (decide (TabOk l))) ∧ Below w.heap.size w w' := by
  obtain ⟨ao, cap, rfl, hlc, hcm, -, -, hao⟩ := hr
  have hml : (l.length : Int) ≤ 9223372036854775807 := by unfold maxLen at hcm; omega
  have HAO := hide hao
  clear hao hlc hcm
  obtain ⟨D, hD⟩ : ∃ D, D = decide (TabOk l) := ⟨_, rfl⟩
  rw [← hD]
  have HDT : Hid (TabTo l l.length → D = true) := fun h => by rw [hD]; exact decide_eq_true h
  have HDF : Hid (∀ k, k ≤ l.length → ¬ TabTo l k → D = false) := fun k hk h => by rw [hD]; exact decide_eq_false (fun hf => h (TabTo.mono hf hk))
  have HP0 := hide (TabTo.zero l)
  clear hD
  go_enter Tryz.func56, Tryz.ntmps56
  go_wp2
  go_loopw [3] (fun vi wr => ∃ k : Nat, vi = .int .i64 (k : Int) ∧ k ≤ l.length ∧ Hid (TabTo l k) ∧ Hid (Below w.heap.size w wr)) (fun vi _ => l.length - (intOf vi).toNat)
  case atStart => exact ⟨0, rfl, Nat.zero_le _, HP0, Below.refl _ _⟩
  case round =>
    obtain ⟨k, rfl, hk, hP, hB⟩ := hrel
    by_cases hlt : k < l.length
    case neg =>
      obtain rfl : k = l.length := by omega
      have HT := hide (HDT.out hP.out)
      go_wp2
      go_ret
      rw [HT.out]
      exact ⟨rfl, hB.out⟩
    rcases HAO.out with h0 | ⟨c, off, rfl, hc⟩
    · rw [h0] at hlt; simp at hlt
    have hck := hc k hlt
    have hkc := hck.keep (hB.out.block c hck.lt)
    have hne1 : c ≠ wr.heap.size := by have := hkc.lt; omega
    obtain ⟨c0, c1, c2⟩ := hkc
    have HPN := hide (TabTo.next (t := l) (k := k))
    have HPV : Hid (0 < k → EntAt wr c (off + (k - 1) * 3) (l.getD (k - 1) zeroE)) := hide (fun h => (hc (k - 1) (by omega)).keep (hB.out.block c (hc (k - 1) (by omega)).lt))
    have HBA : Hid (∀ X, Below w.heap.size w (wr.alloc X)) := fun X => hB.out.alloc hB.out.size X
    have HDK : Hid (¬ TabTo l (k + 1) → D = false) := hide (HDF.out (k + 1) (by omega))
    have HX : Hid (∀ cs, Be (wr.alloc (.cells cs 45)) wr.heap.size cs) := fun cs => heap_alloc_new wr _
    obtain ⟨r, hr⟩ : ∃ r, r = l.getD k zeroE := ⟨_, rfl⟩
    rw [← hr] at HPN c0 c1 c2
    clear hc hck hr HDF
    obtain ⟨P, S, X⟩ := r
    dsimp only at HPN c0 c1 c2
    unfold EntOk at HPN
    dsimp only at HPN
    by_cases hp0 : P < 0
    · have HD := hide (HDK.out (fun h => by have := (HPN.out.1 h).2.1; omega))
      clear HPN HDK
      go_upto_region 5 with fail
      go_quiet (fail)
      go_wp2
      go_ret
      rw [HD.out]
      exact ⟨rfl, below_drewN (HBA.out _) _⟩
    have hp0d : decide (P < 0) = false := decide_eq_false hp0
    by_cases hp1 : 64 < P
    · have HD := hide (HDK.out (fun h => by have := (HPN.out.1 h).2.1; omega))
      clear HPN HDK
      go_upto_region 5 with fail
      go_quiet (fail)
      go_wp2
      go_ret
      rw [HD.out]
      exact ⟨rfl, below_drewN (HBA.out _) _⟩
    have hp1d : decide (64 < P) = false := decide_eq_false hp1
    by_cases hs0 : S < 0
    · have HD := hide (HDK.out (fun h => by have := (HPN.out.1 h).2.1; omega))
      clear HPN HDK
      go_upto_region 5 with fail
      go_quiet (fail)
      go_wp2
      go_ret
      rw [HD.out]
      exact ⟨rfl, below_drewN (HBA.out _) _⟩
    have hs0d : decide (S < 0) = false := decide_eq_false hs0
    by_cases hs1 : 4611686018427387904 ≤ S
    · have HD := hide (HDK.out (fun h => by have := (HPN.out.1 h).2.1; omega))
      clear HPN HDK
      go_upto_region 5 with fail
      go_quiet (fail)
      go_wp2
      go_ret
      rw [HD.out]
      exact ⟨rfl, below_drewN (HBA.out _) _⟩
    have hs1d : decide (4611686018427387904 ≤ S) = false := decide_eq_false hs1
    by_cases hx0 : X < -1125899906842624
    · have HD := hide (HDK.out (fun h => by have := (HPN.out.1 h).2.1; omega))
      clear HPN HDK
      go_upto_region 5 with fail
      go_quiet (fail)
      go_wp2
      go_ret
      rw [HD.out]
      exact ⟨rfl, below_drewN (HBA.out _) _⟩
    have hx0d : decide (X < -1125899906842624) = false := decide_eq_false hx0
    by_cases hx1 : 1125899906842624 < X
    · have HD := hide (HDK.out (fun h => by have := (HPN.out.1 h).2.1; omega))
      clear HPN HDK
      go_upto_region 5 with fail
      go_quiet (fail)
      go_wp2
      go_ret
      rw [HD.out]
      exact ⟨rfl, below_drewN (HBA.out _) _⟩
    have hx1d : decide (1125899906842624 < X) = false := decide_eq_false hx1
    have HEO : Hid (0 ≤ P ∧ P ≤ 64 ∧ 0 ≤ S ∧ S < 4611686018427387904 ∧ -1125899906842624 ≤ X ∧ X ≤ 1125899906842624) := hide ⟨by omega, by omega, by omega, by omega, by omega, by omega⟩
    clear hp0 hp1 hs0 hs1 hx0 hx1
    by_cases hk0 : k = 0
    · have HP1 := hide (HPN.out.2 ⟨hP.out, HEO.out, fun h => absurd h (by omega)⟩)
      have hkd : decide (0 < k) = false := decide_eq_false (by omega)
      have hki : decide ((0 : Int) < (k : Int)) = false := decide_eq_false (by omega)
      clear HPN HDK HPV hk0
      go_upto_region 5 with fail
      go_quiet (fail)
      go_wp2
      go_roundw
      case rel => exact ⟨k + 1, by go_num, by omega, HP1, below_drewN (HBA.out _) _⟩
      case measure => simp [intOf]; omega
    · obtain ⟨q, rfl⟩ : ∃ q, k = q + 1 := ⟨k - 1, by omega⟩
      clear hk0
      have hpw := HPV.out (by omega)
      have hpv : ∀ X, (wr.alloc X).cell? ⟨c, off + (q + 1 - 1) * 3, none⟩ = some (.int .i64 (l.getD (q + 1 - 1) zeroE).proc) := fun X => (hpw.keep (Below.heap_alloc _ _ _ hpw.lt)).1
      clear hpw
      rw [Nat.add_sub_cancel] at hpv HPN
      have hqi : ((q + 1 : Nat) : Int) - 1 = (q : Int) := by omega
      have hql : (q : Int) < (l.length : Int) := by omega
      have hq0 : (0 : Int) < ((q + 1 : Nat) : Int) := by omega
      clear HPV
      generalize (l.getD q zeroE).proc = P0 at *
      by_cases hge : P ≤ P0
      · have HD := hide (HDK.out (fun h => by have := (HPN.out.1 h).2.2 (by omega); omega))
        clear HPN HDK
        go_upto_region 5 with fail
        go_quiet (fail)
        go_wp2
        go_ret
        rw [HD.out]
        exact ⟨rfl, below_drewN (HBA.out _) _⟩
      · have hged : decide (P ≤ P0) = false := decide_eq_false hge
        have HP1 := hide (HPN.out.2 ⟨hP.out, HEO.out, fun _ => by omega⟩)
        clear HPN HDK hge
        go_upto_region 5 with fail
        go_quiet (fail)
        go_wp2
        go_roundw
        case rel => exact ⟨q + 1 + 1, by go_num, by omega, HP1, below_drewN (HBA.out _) _⟩
        case measure => simp [intOf]; omega

end Go.Proofs.YtanmjihiceibbaaGreat

/- Contracts of ferrymanref09: May, Same. -/
namespace Go.Proofs.YtanmjihiceibbaaGreat
open Go.RowKit

/-- A box of a snapshot. -/
def Bn (w : World) (b : Nat) (cs : Array Value) : Prop := w.heap[b]? = some (.cells cs 29 (0, 0))

theorem Bn.lt {w : World} {b : Nat} {cs : Array Value} (h : Bn w b cs) : b < w.heap.size := (Array.getElem?_eq_some_iff.1 h).1

theorem Bn.below {w w' : World} {b B : Nat} {cs : Array Value} (h : Bn w b cs) (hb : Below B w w') (hB : w.heap.size ≤ B) : Bn w' b cs := (hb.block b (by have := h.lt; omega)).trans h

theorem Bn.cell {w : World} {b : Nat} {cs : Array Value} (h : Bn w b cs) (j : Nat) : w.cell? ⟨b, j, none⟩ = cs[j]? ∧ w.frozen? ⟨b, j, none⟩ = false := ⟨cell_of_row w b j _ _ _ h, frozen_of_row w b j _ _ h⟩

theorem mayN_parts (s : Snap) : MayN s ↔ MayS s.st ∧ TabOk s.tab ∧ 0 ≤ s.idx ∧ s.idx < 4611686018427387904 := by
  unfold MayN
  constructor
  · rintro ⟨⟨h1, h2⟩, h3, h4⟩
    exact ⟨h3, h4, h1, h2⟩
  · rintro ⟨h3, h4, h1, h2⟩
    exact ⟨⟨h1, h2⟩, h3, h4⟩

set_option maxRecDepth 100000 in
set_option maxHeartbeats 4000000 in
theorem refMayN_any (v : Value) (s : Snap) (w : World) (hs : SnV w v s) :
    Calls Tryz.prog 23 #[v] w fun e w' => e = .returned (.bool (decide (MayN s))) ∧ Below w.heap.size w w' := by
  obtain ⟨vl, vt, rfl, hl, hk, he, ht, hi⟩ := hs
  obtain ⟨la, lc, e1⟩ : ∃ la lc, vl = .slice la s.st.L.length lc := by
    obtain ⟨a, c, h, -⟩ := hl
    exact ⟨a, c, h⟩
  obtain ⟨ta, tc, e2⟩ := ht.shape
  subst e1 e2
  have HL := hide hl
  have HT := hide ht
  have HSV : Hid (∀ W, Below w.heap.size w W → StV W (.agg #[.int .i64 s.st.kind, .slice la s.st.L.length lc, .bool s.st.shut, .int .i64 s.st.eng]) s.st) := hide (fun W h => ⟨_, rfl, HL.out.below h (Nat.le_refl _), hk, he⟩)
  have HMS := hide (fun W h => refMay_any _ s.st W (HSV.out W h))
  have HMT := hide (fun W (h : Below w.heap.size w W) => refTable_any _ s.tab W (HT.out.below h (Nat.le_refl _)))
  have HB0 : Hid (∀ X, Below w.heap.size w (w.alloc X)) := fun X => (Below.refl _ _).alloc (Nat.le_refl _) X
  have HX0 : Hid (∀ cs, Bn (w.alloc (.cells cs 29)) w.heap.size cs) := fun cs => heap_alloc_new w _
  have HPA := hide (mayN_parts s)
  obtain ⟨D, hD⟩ : ∃ D, D = decide (MayN s) := ⟨_, rfl⟩
  rw [← hD]
  have HD1 : Hid (MayN s → D = true) := fun h => by rw [hD]; exact decide_eq_true h
  have HD0 : Hid (¬ MayN s → D = false) := fun h => by rw [hD]; exact decide_eq_false h
  obtain ⟨A, hA⟩ : ∃ A, A = decide (MayS s.st) := ⟨_, rfl⟩
  obtain ⟨T, hT⟩ : ∃ T, T = decide (TabOk s.tab) := ⟨_, rfl⟩
  rw [← hA] at HMS
  rw [← hT] at HMT
  have HA := hide hA
  have HTT := hide hT
  clear hA hT hD hl ht hk he hi
  obtain ⟨idx, ⟨kind, L, shut, eng⟩, tab⟩ := s
  dsimp only at *
  go_enter Tryz.func23, Tryz.ntmps23
  go_wp2_with fail
  refine (HMS.out _ (HB0.out _)).mono ?_
  rintro e W1 ⟨rfl, hb1⟩
  have hx1 : Bn W1 w.heap.size _ := (HX0.out _).below hb1 (Nat.le_refl _)
  have HX1 := hide hx1
  have HB1 := hide ((HB0.out _).trans (hb1.mono (HB0.out _).size))
  obtain ⟨p5, -⟩ := hx1.cell 5
  clear hb1 hx1
  go_wp2_with fail
  refine (HMT.out _ HB1.out).mono ?_
  rintro e W2 ⟨rfl, hb2⟩
  have hx2 : Bn W2 w.heap.size _ := HX1.out.below hb2 (Nat.le_refl _)
  have HB2 := hide (HB1.out.trans (hb2.mono HB1.out.size))
  obtain ⟨q0, -⟩ := hx2.cell 0
  clear hb2 hx2 p5
  cases A with
  | false =>
    have HE := hide (HD0.out (fun h => of_decide_eq_false HA.out.symm (HPA.out.1 h).1))
    go_wp2
    go_ret
    rw [HE.out]
    exact ⟨rfl, HB2.out⟩
  | true =>
    cases T with
    | false =>
      have HE := hide (HD0.out (fun h => of_decide_eq_false HTT.out.symm (HPA.out.1 h).2.1))
      go_wp2
      go_ret
      rw [HE.out]
      exact ⟨rfl, HB2.out⟩
    | true =>
      by_cases h0 : 0 ≤ idx
      case neg =>
        have h0d : decide (0 ≤ idx) = false := decide_eq_false h0
        have HE := hide (HD0.out (fun h => h0 (HPA.out.1 h).2.2.1))
        clear h0
        go_wp2
        go_ret
        rw [HE.out]
        exact ⟨rfl, HB2.out⟩
      by_cases h1 : idx < 4611686018427387904
      case neg =>
        have h1d : decide (idx < 4611686018427387904) = false := decide_eq_false h1
        have HE := hide (HD0.out (fun h => h1 (HPA.out.1 h).2.2.2))
        clear h1
        go_wp2
        go_ret
        rw [HE.out]
        exact ⟨rfl, HB2.out⟩
      have HE := hide (HD1.out (HPA.out.2 ⟨of_decide_eq_true HA.out.symm, of_decide_eq_true HTT.out.symm, h0, h1⟩))
      go_wp2
      go_ret
      rw [HE.out]
      exact ⟨rfl, HB2.out⟩

theorem new_two (w : World) (X Y : Obj) : ((w.alloc X).alloc Y).heap[w.heap.size + 1]? = some Y := by
  have h := heap_alloc_new (w.alloc X) Y
  have e : (w.alloc X).heap.size = w.heap.size + 1 := by simp
  rw [e] at h
  exact h

/-- Are two snapshots the same? -/
def SameN (a b : Snap) : Prop := SameS a.st b.st ∧ a.idx = b.idx ∧ a.tab = b.tab

instance (a b : Snap) : Decidable (SameN a b) := by unfold SameN; infer_instance

theorem takeE_snoc {l : List Ent} {q : Nat} (h : q < l.length) : l.take (q + 1) = l.take q ++ [l.getD q zeroE] := by
  rw [List.take_add_one]
  simp [List.getD, h]

set_option maxRecDepth 100000 in
set_option maxHeartbeats 4000000 in
theorem refSameN_any (va : Value) (a : Snap) (vb : Value) (b : Snap) (w : World) (ha : SnV w va a) (hb : SnV w vb b) :
    Calls Tryz.prog 8 #[va, vb] w fun e w' => e = .returned (.bool (decide (SameN a b))) ∧ Below w.heap.size w w' := by
  obtain ⟨vl, vt, rfl, hl, hk, he, ht, hi⟩ := ha
  obtain ⟨vl', vt', rfl, hl', hk', he', ht', hi'⟩ := hb
  obtain ⟨la, lc, e1⟩ : ∃ la lc, vl = .slice la a.st.L.length lc := by
    obtain ⟨a, c, h, -⟩ := hl
    exact ⟨a, c, h⟩
  obtain ⟨la', lc', e3⟩ : ∃ la lc, vl' = .slice la b.st.L.length lc := by
    obtain ⟨a, c, h, -⟩ := hl'
    exact ⟨a, c, h⟩
  obtain ⟨ta, tc, e2, htl, htm, -, -, hta⟩ := ht
  obtain ⟨ta', tc', e4, htl', htm', -, -, hta'⟩ := ht'
  subst e1 e2 e3 e4
  have hml : (a.tab.length : Int) ≤ 9223372036854775807 := by unfold maxLen at htm; omega
  have hml2 : (b.tab.length : Int) ≤ 9223372036854775807 := by unfold maxLen at htm'; omega
  have HAA := hide hta
  have HAB := hide hta'
  have HL := hide hl
  have HL' := hide hl'
  have HSV : Hid (∀ W, Below w.heap.size w W → StV W (.agg #[.int .i64 a.st.kind, .slice la a.st.L.length lc, .bool a.st.shut, .int .i64 a.st.eng]) a.st) := hide (fun W h => ⟨_, rfl, HL.out.below h (Nat.le_refl _), hk, he⟩)
  have HSV' : Hid (∀ W, Below w.heap.size w W → StV W (.agg #[.int .i64 b.st.kind, .slice la' b.st.L.length lc', .bool b.st.shut, .int .i64 b.st.eng]) b.st) := hide (fun W h => ⟨_, rfl, HL'.out.below h (Nat.le_refl _), hk', he'⟩)
  have HMS := hide (fun W h => refSameS_any _ a.st _ b.st W (HSV.out W h) (HSV'.out W h))
  have HB0 : Hid (∀ X Y, Below w.heap.size w ((w.alloc X).alloc Y)) := fun X Y => ((Below.refl _ _).alloc (Nat.le_refl _) X).alloc (by simp) Y
  have HX0 : Hid (∀ cs ds, Bn ((w.alloc (.cells cs 29)).alloc (.cells ds 29)) w.heap.size cs) := fun cs ds => (Below.heap_alloc _ _ _ (by simp)).trans (heap_alloc_new w _)
  have HY0 : Hid (∀ cs ds, Bn ((w.alloc (.cells cs 29)).alloc (.cells ds 29)) (w.heap.size + 1) ds) := fun cs ds => new_two w _ _
  have hgd := guard_ent
  obtain ⟨D, hD⟩ : ∃ D, D = decide (SameN a b) := ⟨_, rfl⟩
  rw [← hD]
  have HD1 : Hid (SameN a b → D = true) := fun h => by rw [hD]; exact decide_eq_true h
  have HD0 : Hid (¬ SameN a b → D = false) := fun h => by rw [hD]; exact decide_eq_false h
  obtain ⟨A, hA⟩ : ∃ A, A = decide (SameS a.st b.st) := ⟨_, rfl⟩
  rw [← hA] at HMS
  have HA := hide hA
  have HU : Hid (SameN a b ↔ SameS a.st b.st ∧ a.idx = b.idx ∧ a.tab = b.tab) := hide Iff.rfl
  clear hA hD hl hl' hta hta' hk he hi hk' he' hi' htm htm' htl htl' HSV HSV'
  obtain ⟨idx, ⟨kind, L, shut, eng⟩, tab⟩ := a
  obtain ⟨idx', ⟨kind', L', shut', eng'⟩, tab'⟩ := b
  dsimp only at *
  go_enter Tryz.func8, Tryz.ntmps8
  go_wp2_with fail
  refine (HMS.out _ (HB0.out _ _)).mono ?_
  rintro e W1 ⟨rfl, hb1⟩
  have hx1 : Bn W1 w.heap.size _ := (HX0.out _ _).below hb1 (Nat.le_refl _)
  have hy1 : Bn W1 (w.heap.size + 1) _ := (HY0.out _ _).below hb1 (Nat.le_refl _)
  have HX1 := hide hx1
  have HY1 := hide hy1
  have HB1 := hide ((HB0.out _ _).trans (hb1.mono (HB0.out _ _).size))
  obtain ⟨p0, -⟩ := hx1.cell 0
  obtain ⟨p5, -⟩ := hx1.cell 5
  obtain ⟨q0, -⟩ := hy1.cell 0
  obtain ⟨q5, -⟩ := hy1.cell 5
  clear hb1 hx1 hy1 HX0 HY0 HMS
  cases A with
  | false =>
    have HE := hide (HD0.out (fun h => of_decide_eq_false HA.out.symm (HU.out.1 h).1))
    go_wp2
    go_ret
    rw [HE.out]
    exact ⟨rfl, HB1.out⟩
  | true =>
    by_cases h0 : idx = idx'
    case neg =>
      have h0d : (idx != idx') = true := by rw [bne_iff_ne]; exact h0
      have HE := hide (HD0.out (fun h => h0 (HU.out.1 h).2.1))
      clear h0
      go_wp2
      go_ret
      rw [HE.out]
      exact ⟨rfl, HB1.out⟩
    have h0d : (idx != idx') = false := by rw [bne_eq_false_iff_eq]; exact h0
    have H0 := hide h0
    clear h0
    by_cases hlen : tab.length = tab'.length
    case neg =>
      have hne : ((tab.length : Int) != (tab'.length : Int)) = true := by rw [bne_iff_ne]; omega
      have HE := hide (HD0.out (fun h => hlen (by rw [(HU.out.1 h).2.2])))
      clear hlen
      go_wp2
      go_ret
      rw [HE.out]
      exact ⟨rfl, HB1.out⟩
    have hne : ((tab.length : Int) != (tab'.length : Int)) = false := by rw [bne_eq_false_iff_eq]; omega
    have HLEN := hide hlen
    have HDT : Hid (tab.take tab.length = tab'.take tab.length → D = true) := hide (fun h => HD1.out (HU.out.2 ⟨of_decide_eq_true HA.out.symm, H0.out, by
      rw [List.take_length, HLEN.out, List.take_length] at h
      exact h⟩))
    have HDF : Hid (∀ k, k < tab.length → tab.getD k zeroE ≠ tab'.getD k zeroE → D = false) := hide (fun k hk h => HD0.out (fun hs => h (by rw [(HU.out.1 hs).2.2])))
    clear hlen HU HD1 HD0 HA H0
    go_wp2
    go_loopw [6] (fun vi wr => ∃ k : Nat, vi = .int .i64 (k : Int) ∧ k ≤ tab.length ∧ Hid (tab.take k = tab'.take k) ∧ Hid (∃ n, wr = W1.drewN n)) (fun vi _ => tab.length - (intOf vi).toNat)
    case atStart => exact ⟨0, rfl, Nat.zero_le _, rfl, ⟨0, rfl⟩⟩
    case round =>
      obtain ⟨k, rfl, hk, hP, hW⟩ := hrel
      obtain ⟨nw, hwr⟩ := hW.out
      subst hwr
      by_cases hlt : k < tab.length
      case neg =>
        obtain rfl : k = tab.length := by omega
        have HT := hide (HDT.out hP.out)
        go_wp2
        go_ret
        rw [HT.out]
        exact ⟨rfl, below_drewN HB1.out _⟩
      rcases HAA.out with h0 | ⟨c, off, rfl, hc⟩
      · rw [h0] at hlt; simp at hlt
      rcases HAB.out with h0 | ⟨c', off', rfl, hc'⟩
      · have hlen := HLEN.out; rw [h0] at hlen; simp at hlen; rw [hlen] at hlt; simp at hlt
      have h1 := hc k hlt
      have h2 := hc' k (by have := HLEN.out; omega)
      obtain ⟨c0, c1, c2⟩ := h1.keep (HB1.out.block c h1.lt)
      obtain ⟨d0, d1, d2⟩ := h2.keep (HB1.out.block c' h2.lt)
      have hki : (k : Int) < (tab.length : Int) := by omega
      have hkj : (k : Int) < (tab'.length : Int) := by have := HLEN.out; omega
      have HNE := hide (HDF.out k hlt)
      have HPN : Hid (tab.getD k zeroE = tab'.getD k zeroE → tab.take (k + 1) = tab'.take (k + 1)) := fun h => by rw [takeE_snoc hlt, takeE_snoc (by have := HLEN.out; omega), hP.out, h]
      clear hc hc' h1 h2 HDT HDF
      generalize tab.getD k zeroE = r at *
      generalize tab'.getD k zeroE = s at *
      by_cases hrs : r = s
      · subst hrs
        have HP1 := hide (HPN.out rfl)
        have hneq := fun W => neq_ent W r r
        rw [eqEnt_self] at hneq
        clear HNE HPN
        go_upto_region 7 with fail
        go_quiet (fail)
        go_wp2
        go_roundw
        case rel => exact ⟨k + 1, by go_num, by omega, HP1, ⟨_, rfl⟩⟩
        case measure => simp [intOf]; omega
      · have HD := hide (HNE.out hrs)
        have hneq := fun W => neq_ent W r s
        rw [eqEnt_not hrs] at hneq
        clear HNE HPN hrs
        go_upto_region 7 with fail
        go_quiet (fail)
        go_wp2
        go_ret
        rw [HD.out]
        exact ⟨rfl, below_drewN (below_drewN HB1.out _) _⟩

end Go.Proofs.YtanmjihiceibbaaGreat

/- What is read stays while boxes are written: entries; a result that is a snapshot. -/
namespace Go.Proofs.YtanmjihiceibbaaGreat
open Go.RowKit

theorem RdE.but {w w' : World} {v : Value} {l : List Ent} (h : RdE w v l) {R T : Nat} (hb : But R T w w') (hn : l = [] ∨ ∀ b, v.ownBlock = some b → b ≠ R ∧ b ≠ T) : RdE w' v l := by
  obtain ⟨ao, cap, rfl, h2, h3, hn0, hw, h4⟩ := h
  refine ⟨ao, cap, rfl, h2, h3, hn0, hw, ?_⟩
  rcases h4 with h4 | ⟨b, off, h5, h6⟩
  · exact .inl h4
  · by_cases hl : l = []
    · exact .inl hl
    · refine .inr ⟨b, off, h5, fun j hj => ?_⟩
      have h7 := h6 j hj
      rcases hn with hn | hn
      · exact absurd hn hl
      · have h8 := hn b (by rw [h5]; rfl)
        exact h7.keep (hb.block b h7.lt h8.1 h8.2)

theorem RdE.block {w : World} {v : Value} {l : List Ent} (h : RdE w v l) : l = [] ∨ ∀ b, v.ownBlock = some b → b < w.heap.size := by
  obtain ⟨ao, cap, rfl, h2, h3, hn0, hw, h4⟩ := h
  rcases h4 with h4 | ⟨b, off, rfl, h6⟩
  · exact .inl h4
  · by_cases hl : l = []
    · exact .inl hl
    · refine .inr fun c hc => ?_
      have e : b = c := by simpa [Value.ownBlock] using hc
      rw [← e]
      exact (h6 0 (List.length_pos_iff.2 hl)).lt

theorem RdI.old {w : World} {v : Value} {l : List Int} (h : RdI w v l) : l = [] ∨ ∀ b, v.ownBlock = some b → b < w.heap.size := by
  rcases h.block with h | ⟨_, b, hb, hlt⟩
  · exact .inl h
  · refine .inr fun c hc => ?_
    rw [hb] at hc
    injection hc with hc
    omega

theorem OwnE.fresh {w : World} {B : Nat} {v : Value} {l : List Ent} (h : OwnE w B v l) : ∀ b, v.ownBlock = some b → B ≤ b := fun b hb => (World.ownsRow.lt h b hb).1

/-- What is decoded: a snapshot, and an error's number. -/
def DecodedN (w : World) (r : Snap × Int) (e : Ending) (w' : World) : Prop :=
  ∃ vl vt, e = .returned (.tuple #[.agg #[.int .i64 r.1.idx, .int .i64 r.1.st.kind, vl, .bool r.1.st.shut, .int .i64 r.1.st.eng, vt], .int .i64 r.2]) ∧ RdI w' vl r.1.st.L ∧ I64 r.1.st.kind ∧ I64 r.1.st.eng ∧ RdE w' vt r.1.tab ∧ I64 r.1.idx ∧ (∀ b, vl.ownBlock = some b → w.heap.size ≤ b) ∧ (∀ b, vt.ownBlock = some b → w.heap.size ≤ b) ∧ Below w.heap.size w w'

theorem DecodedN.zero {w w' : World} (n : Int) (hb : Below w.heap.size w w') : DecodedN w (zeroN, n) (.returned (.tuple #[.agg #[.int .i64 0, .int .i64 0, .slice none 0 0, .bool false, .int .i64 0, .slice none 0 0], .int .i64 n])) w' :=
  ⟨_, _, rfl, RdI.nil _, (i64_small (by decide) (by decide) : I64 0), (i64_small (by decide) (by decide) : I64 0), RdE.nil _, (i64_small (by decide) (by decide) : I64 0), fun b hb => by simp [Value.ownBlock] at hb, fun b hb => by simp [Value.ownBlock] at hb, hb⟩

theorem SnV.below {w w' : World} {v : Value} {s : Snap} (h : SnV w v s) {B : Nat} (hb : Below B w w') (hB : w.heap.size ≤ B) : SnV w' v s := by
  obtain ⟨vl, vt, e, hl, hk, he, ht, hi⟩ := h
  exact ⟨vl, vt, e, hl.below hb hB, hk, he, ht.below hb hB, hi⟩

theorem SnV.shape {w : World} {v : Value} {s : Snap} (h : SnV w v s) : ∃ la lc ta tc, v = .agg #[.int .i64 s.idx, .int .i64 s.st.kind, .slice la s.st.L.length lc, .bool s.st.shut, .int .i64 s.st.eng, .slice ta s.tab.length tc] := by
  obtain ⟨vl, vt, e, hl, hk, he, ht, hi⟩ := h
  obtain ⟨la, lc, h1, -⟩ := hl
  obtain ⟨ta, tc, h2⟩ := ht.shape
  subst h1 h2
  exact ⟨la, lc, ta, tc, e⟩

theorem DecodedN.sn {w w' : World} {r : Snap × Int} {e : Ending} (h : DecodedN w r e w') : ∃ v, e = .returned (.tuple #[v, .int .i64 r.2]) ∧ SnV w' v r.1 ∧ Below w.heap.size w w' := by
  obtain ⟨vl, vt, rfl, hl, hk, he, ht, hi, _, _, hb⟩ := h
  exact ⟨_, rfl, ⟨vl, vt, rfl, hl, hk, he, ht, hi⟩, hb⟩

/-- Six cells of a block, written. -/
def six (w : World) (R : Nat) (x0 x1 x2 x3 x4 x5 : Value) : World := (((((w.setCell ⟨R, 0, none⟩ x0).setCell ⟨R, 1, none⟩ x1).setCell ⟨R, 2, none⟩ x2).setCell ⟨R, 3, none⟩ x3).setCell ⟨R, 4, none⟩ x4).setCell ⟨R, 5, none⟩ x5

theorem belowSix {C : Nat} {w0 w : World} (h : Below C w0 w) (R : Nat) (hR : C ≤ R) (x0 x1 x2 x3 x4 x5 : Value) : Below C w0 (six w R x0 x1 x2 x3 x4 x5) :=
  (((((h.setCell hR _).setCell hR _).setCell hR _).setCell hR _).setCell hR _).setCell hR _

theorem belowSixE {C : Nat} {w0 w : World} (h : Below C w0 w) (R : Nat) (hR : C ≤ R) (x0 x1 x2 x3 x4 x5 : Value) : Below C w0 ((((((w.setCell ⟨R, 0, none⟩ x0).setCell ⟨R, 1, none⟩ x1).setCell ⟨R, 2, none⟩ x2).setCell ⟨R, 3, none⟩ x3).setCell ⟨R, 4, none⟩ x4).setCell ⟨R, 5, none⟩ x5) := belowSix h R hR x0 x1 x2 x3 x4 x5

theorem butSix (w : World) (R : Nat) (x0 x1 x2 x3 x4 x5 : Value) : But R R w (six w R x0 x1 x2 x3 x4 x5) :=
  ((((((But.refl R R w).set _ _ (.inl rfl) _).set _ _ (.inl rfl) _).set _ _ (.inl rfl) _).set _ _ (.inl rfl) _).set _ _ (.inl rfl) _).set _ _ (.inl rfl) _

theorem Bn.set {w : World} {b : Nat} {cs : Array Value} (h : Bn w b cs) (j : Nat) (x : Value) : Bn (w.setCell ⟨b, j, none⟩ x) b (cs.setIfInBounds j x) := by
  have := heap_setCell_same w b j _ _ x h
  unfold Bn
  simpa using this

theorem Bn.other {w : World} {b c : Nat} {cs : Array Value} (h : Bn w b cs) (j : Nat) (x : Value) (hne : b ≠ c) : Bn (w.setCell ⟨c, j, none⟩ x) b cs := (Below.heap_setCell _ _ _ _ hne).trans h

end Go.Proofs.YtanmjihiceibbaaGreat

