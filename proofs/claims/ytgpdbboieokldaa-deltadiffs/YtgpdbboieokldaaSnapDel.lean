/- Contract over entries of slices.DeleteFunc. -/
import Derived.Test.YtgpdbboieokldaaSnapShelf
namespace Go.Proofs.Ytgpdbboieokldaa
open Go.RowKit

theorem filter_next (p : Ent → Bool) (l : List Ent) (j : Nat) (hj : j < l.length) : (l.take (j + 1)).filter (fun e => !p e) = (l.take j).filter (fun e => !p e) ++ if p (l.getD j zeroE) = true then [] else [l.getD j zeroE] := by
  have e1 : l.take (j + 1) = l.take j ++ [l.getD j zeroE] := by
    rw [List.take_add_one, List.getElem?_eq_getElem hj]
    simp [List.getD, hj]
  rw [e1, List.filter_append]
  congr 1
  generalize l.getD j zeroE = x
  cases h : p x <;> simp [h]

theorem filter_none (p : Ent → Bool) (l : List Ent) (i : Nat) (hi : i ≤ l.length) (h : ∀ j, j < i → p (l.getD j zeroE) = false) : (l.take i).filter (fun e => !p e) = l.take i := by
  rw [List.filter_eq_self]
  intro e he
  obtain ⟨j, hj, rfl⟩ := List.getElem_of_mem he
  rw [List.length_take] at hj
  have := h j (by omega)
  rw [List.getElem_take]
  simp only [List.getD, List.getElem?_eq_getElem (show j < l.length by omega), Option.getD_some] at this
  simp [this]

/-- Where the deleting stands: L is the row; i of it are kept, j are seen. -/
def DelAt (p : Ent → Bool) (l L : List Ent) (i j : Nat) : Prop := L.length = l.length ∧ L.take i = (l.take j).filter (fun e => !p e) ∧ L.drop j = l.drop j ∧ i < j

theorem DelAt.start {p : Ent → Bool} {l : List Ent} {i : Nat} (hi : i < l.length) (h : ∀ j, j < i → p (l.getD j zeroE) = false) (hp : p (l.getD i zeroE) = true) : DelAt p l l i (i + 1) := by
  refine ⟨rfl, ?_, rfl, Nat.lt_succ_self _⟩
  rw [filter_next p l i hi, if_pos hp, List.append_nil, filter_none p l i (by omega) h]

theorem DelAt.at {p : Ent → Bool} {l L : List Ent} {i j : Nat} (h : DelAt p l L i j) : L.getD j zeroE = l.getD j zeroE := by
  obtain ⟨h1, h2, h3, h4⟩ := h
  have e1 : (L.drop j).getD 0 zeroE = L.getD j zeroE := by simp [List.getD]
  have e2 : (l.drop j).getD 0 zeroE = l.getD j zeroE := by simp [List.getD]
  rw [← e1, ← e2, h3]

theorem drop_next {L l : List Ent} {j : Nat} (h : L.drop j = l.drop j) : L.drop (j + 1) = l.drop (j + 1) := by
  rw [← List.drop_drop, ← List.drop_drop, h]

theorem DelAt.skip {p : Ent → Bool} {l L : List Ent} {i j : Nat} (h : DelAt p l L i j) (hj : j < l.length) (hp : p (l.getD j zeroE) = true) : DelAt p l L i (j + 1) := by
  obtain ⟨h1, h2, h3, h4⟩ := h
  refine ⟨h1, ?_, drop_next h3, by omega⟩
  rw [filter_next p l j hj, if_pos hp, List.append_nil, h2]

theorem DelAt.keep {p : Ent → Bool} {l L : List Ent} {i j : Nat} (h : DelAt p l L i j) (hj : j < l.length) (hp : p (l.getD j zeroE) = false) : DelAt p l (L.set i (l.getD j zeroE)) (i + 1) (j + 1) := by
  obtain ⟨h1, h2, h3, h4⟩ := h
  refine ⟨by rw [List.length_set, h1], ?_, ?_, by omega⟩
  · rw [filter_next p l j hj, if_neg (by rw [hp]; simp), ← h2, List.take_add_one, List.take_set_of_le (Nat.le_refl _)]
    congr 1
    rw [List.getElem?_set_self (by omega)]
    rfl
  · rw [List.drop_set_of_lt (by omega)]
    exact drop_next h3

/-- An entry's three cells, written one by one. -/
theorem OwnE.put3 {w : World} {B g n cap : Nat} {l : List Ent} (h : OwnE w B (.slice (some ⟨g, 0, none⟩) n cap) l) (i : Nat) (hi : i < l.length) (p s r : Int) (o0 o1 o2 : Nat) (h0 : o0 = i * 3) (h1 : o1 = i * 3 + 1) (h2 : o2 = i * 3 + 2) :
    OwnE (((w.setCell ⟨g, o0, none⟩ (.int .i64 p)).setCell ⟨g, o1, none⟩ (.int .i64 s)).setCell ⟨g, o2, none⟩ (.int .i64 r)) B (.slice (some ⟨g, 0, none⟩) n cap) (l.set i ⟨p, s, r⟩) := by
  subst h0 h1 h2
  exact h.put i hi ⟨p, s, r⟩

theorem OwnE.ent {w : World} {B g n cap : Nat} {l : List Ent} (h : OwnE w B (.slice (some ⟨g, 0, none⟩) n cap) l) (i : Nat) (hi : i < l.length) : EntAt w g (i * 3) (l.getD i zeroE) ∧ (∀ k, w.frozen? ⟨g, k, none⟩ = false) ∧ B ≤ g ∧ l.length ≤ cap ∧ cap ≤ maxLen ∧ n = l.length := by
  rcases h.row with ⟨h1, -⟩ | ⟨g', cap', cur, h1, hB, hlt, hg, hc, hm, hs, hcell⟩
  · cases h1
  · injection h1 with h1 h2 h3
    injection h1 with h1
    injection h1 with h1
    subst h1 h3
    have hx : ∀ k, k < 3 → w.cell? ⟨g, i * 3 + k, none⟩ = (entC (l.getD i zeroE))[k]? := fun k hk => by
      rw [cell_of_row w g (i * 3 + k) _ _ _ hg, hcell _ (by omega), entCells_get l i k hi hk]
    exact ⟨⟨hx 0 (by decide), hx 1 (by decide), hx 2 (by decide)⟩, fun k => frozen_of_row w g k _ _ hg, hB, hc, hm, h2⟩

theorem belowStore3 {C : Nat} {w0 w : World} (h : Below C w0 w) (R : Nat) (hR : C ≤ R) (o0 o1 o2 : Nat) (x0 x1 x2 : Value) : Below C w0 (((w.setCell ⟨R, o0, none⟩ x0).setCell ⟨R, o1, none⟩ x1).setCell ⟨R, o2, none⟩ x2) :=
  ((h.setCell hR _).setCell hR _).setCell hR _

theorem zeroValue_ent (w : World) : (zeroValue 55).run Try.prog w = .ok (.agg #[.int .i64 0, .int .i64 0, .int .i64 0]) w := Try.zeroValue55 w

set_option maxRecDepth 100000 in
set_option maxHeartbeats 4000000 in
theorem deleteFuncE_any (g R : Nat) (p : Ent → Bool) (v : Value) (l : List Ent) (B : Nat) (w : World) (ho : OwnE w B v l) (hI : ∀ e ∈ l, EntI e) (hBw : B ≤ w.heap.size) (hlim : l.length ≤ 1000000)
    (eg : ∀ args W, (callFunc g args).run Try.prog W = .ok (.enter g args) W)
    (hp : ∀ W e, Below B w W → Calls Try.prog g #[entV e, .pointer (some ⟨R, 0, none⟩)] W fun x w' => x = .returned (.bool (p e)) ∧ Below W.heap.size W w') :
    Calls Try.prog 86 #[v, .func (.func g) #[] #[.pointer (some ⟨R, 0, none⟩)]] w fun x w' => ∃ v', x = .returned v' ∧ OwnE w' B v' (l.filter (fun e => !p e)) ∧ Below B w w' := by
  have HO := hide ho
  have HP := hide hp
  have HIX := hide (indexFuncE_any g R p v l w (ho.rd hI) eg (fun W e h => hp W e (h.mono hBw)))
  obtain ⟨va, vc, hv⟩ := ho.shape
  subst hv
  clear ho hp
  go_enter Try.func86, Try.ntmps86
  go_wp2_with fail
  refine HIX.out.mono ?_
  rintro x W0 ⟨k, rfl, hf, hb0⟩
  have HB0 := hide (hb0.mono hBw)
  have HO0 := hide (HO.out.below hb0 (Nat.le_refl _))
  clear HIX hb0 HO
  rcases hf with ⟨rfl, hf⟩ | ⟨i0, rfl, hi0, hf, hpi⟩
  · have HE : Hid (l.filter (fun e => !p e) = l) := hide (by
      have := filter_none p l l.length (Nat.le_refl _) hf
      rwa [List.take_length] at this)
    clear hf
    go_wp2
    go_ret
    exact ⟨_, rfl, by rw [HE.out]; exact HO0.out, HB0.out⟩
  have HD0 := hide (DelAt.start hi0 hf hpi)
  clear hf hpi
  rcases HO0.out.row with ⟨-, h2⟩ | ⟨gr, cap, cur, h1, hBg, -, -, hlc, hcm, -, -⟩
  · rw [h2] at hi0; simp at hi0
  injection h1 with h1 _ h3
  subst h1 h3
  have hml : (l.length : Int) ≤ 1000000 := by omega
  clear cur hcm
  have ei : ((i0 : Int) == -1) = false := beq_eq_false_iff_ne.2 (by omega)
  go_wp2
  go_loopw [5, 6] (fun v5 v6 wr => ∃ (i j : Nat) (L : List Ent), v5 = .int .i64 (i : Int) ∧ v6 = .int .i64 (j : Int) ∧ i < j ∧ j ≤ l.length ∧ Hid (OwnE wr B (.slice (some ⟨gr, 0, none⟩) l.length vc) L) ∧ Hid (DelAt p l L i j) ∧ Hid (Below B w wr)) (fun _ v6 _ => l.length - (intOf v6).toNat)
  case atStart => exact ⟨i0, i0 + 1, l, rfl, by go_num, by omega, by omega, HO0, HD0, HB0⟩
  case round =>
    clear HO0 HD0 HB0 ei
    obtain ⟨i, j, L, rfl, rfl, hij, hjl, hO, hD, hB⟩ := hrel
    by_cases hlt : j < l.length
    case neg =>
      obtain rfl : j = l.length := by omega
      have hL : L.length = l.length := hD.out.1
      have HT : Hid (L.take i = l.filter (fun e => !p e)) := hide (by rw [hD.out.2.1, List.take_length])
      have hE := (hO.out.ent i (by omega)).2.1
      have HK : Hid (∀ ty, (Builtin.clear_ #[25] ty #[.slice (some ⟨gr, i * 3, none⟩) (l.length - i) (vc - i)]).run Try.prog wr = .ok (.tuple #[]) (wr.setCells gr (i * 3) (zeros3 (l.length - i)))) := hide (fun ty =>
        run_clear_three wr _ _ _ Try.underlying25 zeroValue_ent gr (i * 3) (l.length - i) (vc - i) (by omega) (fun k hk => by
          obtain ⟨q, r, hr, rfl⟩ : ∃ q r, r < 3 ∧ k = q * 3 + r := ⟨k / 3, k % 3, Nat.mod_lt _ (by decide), by omega⟩
          have := (hO.out.ent (i + q) (by omega)).1
          rw [show i * 3 + (q * 3 + r) = (i + q) * 3 + r by omega]
          match r, hr with
          | 0, _ => rw [show (i + q) * 3 + 0 = (i + q) * 3 from rfl, this.1]; rfl
          | 1, _ => rw [this.2.1]; rfl
          | 2, _ => rw [this.2.2]; rfl) (fun k _ => hE _))
      have HOC := hide ((hO.out.cut i (by omega)).cells (i * 3) (by rw [List.length_take]; omega) (zeros3 (l.length - i)))
      rw [HT.out] at HOC
      have HBC := hide (belowCells hBg (zeros3 (l.length - i)) (i * 3) wr hB.out)
      have hvi : ¬ (vc = i) := by omega
      have hb1 : (i : Int) ≤ (l.length : Int) := by omega
      have hb2 : (i : Int) ≤ (vc : Int) := by omega
      have hb3 : i ≤ l.length := by omega
      have hb4 : i ≤ vc := by omega
      clear hE
      have hK := HK.out
      go_wp2
      go_ret
      exact ⟨_, rfl, HOC.out, HBC.out⟩
    have hji : (j : Int) < (l.length : Int) := by omega
    have hLl : L.length = l.length := hD.out.1
    obtain ⟨⟨c0, c1, c2⟩, -, -⟩ := hO.out.ent j (by omega)
    rw [hD.out.at] at c0 c1 c2
    have HSK := hide (hD.out.skip hlt)
    have HKP := hide (hD.out.keep hlt)
    obtain ⟨e, he⟩ : ∃ e, e = l.getD j zeroE := ⟨_, rfl⟩
    rw [← he] at c0 c1 c2 HSK HKP
    obtain ⟨pe, hpe⟩ : ∃ pe, pe = p e := ⟨_, rfl⟩
    have HC := hide (fun W h => HP.out W e h)
    rw [← hpe] at HC HSK HKP
    obtain ⟨ep, es, er⟩ := e
    unfold entV at HC
    simp only at HC c0 c1 c2 HKP
    clear he hpe hD
    have HB2 : Hid (∀ X, Below B w (wr.alloc X)) := hide (fun X => hB.out.alloc (Nat.le_trans hBw hB.out.size) X)
    have HX : Hid (Be (wr.alloc (.cells #[.int .i64 ep, .int .i64 es, .int .i64 er] 55)) wr.heap.size #[.int .i64 ep, .int .i64 es, .int .i64 er]) := hide (heap_alloc_new wr _)
    have HOW : Hid (∀ X, OwnE (wr.alloc X) B (.slice (some ⟨gr, 0, none⟩) l.length vc) L) := hide (fun X => hO.out.below ((Below.refl _ _).alloc (Nat.le_refl _) X) (Nat.le_refl _))
    go_wp2_with fail
    refine (HC.out _ (HB2.out _)).mono ?_
    rintro x W1 ⟨rfl, hb1⟩
    have HB3 := hide ((HB2.out (.cells #[.int .i64 ep, .int .i64 es, .int .i64 er] 55)).trans (hb1.mono (by have := hB.out.size; simp; omega)))
    have HX3 := hide (HX.out.below hb1 (Nat.le_refl _))
    have HO3 := hide ((HOW.out (.cells #[.int .i64 ep, .int .i64 es, .int .i64 er] 55)).below hb1 (Nat.le_refl _))
    clear hb1 HC HB2 HX HOW c0 c1 c2 hO hB
    cases pe with
    | true =>
      go_wp2
      go_roundw
      case rel => exact ⟨i, j + 1, L, rfl, by go_num, by omega, by omega, HO3, hide (HSK.out (by simp)), HB3⟩
      case measure => simp [intOf]; omega
    | false =>
      obtain ⟨⟨d0, d1, d2⟩, hfz, hBg2, -⟩ := HO3.out.ent i (by omega)
      obtain ⟨b0, f0⟩ := HX3.out.cell 0
      obtain ⟨b1, f1⟩ := HX3.out.cell 1
      obtain ⟨b2, f2⟩ := HX3.out.cell 2
      have z0 := hfz (i * 3)
      have z1 := hfz (i * 3 + 1)
      have z2 := hfz (i * 3 + 2)
      have hii : (i : Int) < (l.length : Int) := by omega
      have hil : i < l.length := by omega
      clear hfz
      go_wp2
      go_roundw
      case rel => exact ⟨i + 1, j + 1, L.set i ⟨ep, es, er⟩, by go_num, by go_num, by omega, by omega, hide (HO3.out.put3 i (by omega) ep es er _ _ _ (by omega) (by omega) (by omega)), hide (HKP.out (by simp)), hide (belowStore3 HB3.out gr hBg _ _ _ _ _ _)⟩
      case measure => simp [intOf]; omega

end Go.Proofs.Ytgpdbboieokldaa
