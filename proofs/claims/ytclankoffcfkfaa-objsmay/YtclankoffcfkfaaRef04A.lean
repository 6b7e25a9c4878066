/- Contracts of ferrymanref04: cut, find, without, with, pairs. -/
import Derived.Test.YtclankoffcfkfaaObjsBase
namespace Go.Proofs.Ytclankoffcfkfaa
open Go.RowKit

set_option maxRecDepth 100000 in
theorem refCut_any (n : Int) (w : World) : Calls Try.prog 34 #[.int .i64 n] w fun e w' => e = .returned (.int .i64 (cutZ n)) ∧ w' = w := by
  by_cases h1 : n < -1099511627776
  · have HE : Hid (cutZ n = -1099511627776) := if_pos h1
    go_enter Try.func34, Try.ntmps34
    go_wp2
    go_ret
    exact ⟨ret_i HE.out.symm, rfl⟩
  · by_cases h2 : 1099511627776 < n
    · have HE : Hid (cutZ n = 1099511627776) := by unfold cutZ; rw [if_neg h1, if_pos h2]; exact rfl
      go_enter Try.func34, Try.ntmps34
      go_wp2
      go_ret
      exact ⟨ret_i HE.out.symm, rfl⟩
    · have HE : Hid (cutZ n = n) := by unfold cutZ; rw [if_neg h1, if_neg h2]; exact rfl
      go_enter Try.func34, Try.ntmps34
      go_wp2
      go_ret
      exact ⟨ret_i HE.out.symm, rfl⟩

set_option maxRecDepth 100000 in
theorem refFind_any (v : Value) (l : List Int) (key : Int) (w : World) (hr : RdI w v l) (he : l.length % 2 = 0) (hl : l.length ≤ 1000) :
    Calls Try.prog 43 #[v, .int .i64 key] w fun e w' => e = .returned (.int .i64 (findF key 0 l)) ∧ w' = w := by
  obtain ⟨ao, cap, rfl, hlc, hcm, hn0, hi, hao⟩ := hr
  clear hn0 hlc hcm hi
  go_enter Try.func43, Try.ntmps43
  go_wp2
  go_loop [5] (fun i => ∃ k : Nat, i = .int .i64 k ∧ k ≤ l.length ∧ k % 2 = 0 ∧ Hid (findF key 0 l = findF key k (l.drop k))) (fun i => l.length - (intOf i).toNat)
  case atStart => exact ⟨0, rfl, by omega, rfl, rfl⟩
  case round =>
    obtain ⟨k, rfl, hkl, hk2, hf⟩ := hrel
    by_cases hlt : k < l.length
    · rcases hao with hao | ⟨b, off, rfl, hc⟩
      · subst hao; simp at hlt
      have hck := hc k hlt
      have HS : Hid (findF key k (l.drop k) = if l.getD k 0 = key then (k : Int) else findF key (k + 2) (l.drop (k + 2))) := by
        rw [drop_pair l k (by omega)]
        exact rfl
      clear hc
      generalize l.getD k 0 = y at *
      by_cases hy : y = key
      · have hyb : (y == key) = true := beq_iff_eq.2 hy
        have HE : Hid (findF key 0 l = (k : Int)) := hide' (by rw [hf.out, HS.out, if_pos hy])
        clear hy
        go_wp2
        go_ret
        exact ⟨ret_i HE.out.symm, rfl⟩
      · have hyb : (y == key) = false := beq_eq_false_iff_ne.2 hy
        have HE : Hid (findF key 0 l = findF key (k + 2) (l.drop (k + 2))) := hide' (by rw [hf.out, HS.out, if_neg hy])
        clear hy
        go_wp2
        go_round
        case rel => exact ⟨k + 2, by go_num, by omega, by omega, HE⟩
        case measure => simp [intOf]; omega
    · have HE : Hid (findF key 0 l = -1) := by
        rw [hf.out, List.drop_of_length_le (by omega)]
        exact rfl
      go_wp2
      go_ret
      exact ⟨ret_i HE.out.symm, rfl⟩

set_option maxRecDepth 100000 in
theorem refWithout_any (v : Value) (l : List Int) (key : Int) (w : World) (hr : RdI w v l) (he : l.length % 2 = 0) (hl : l.length ≤ 1000) :
    Calls Try.prog 44 #[v, .int .i64 key] w fun e w' => ∃ v', e = .returned v' ∧ OwnI w' w.heap.size v' (withoutF key l) ∧ Below w.heap.size w w' := by
  have HR := hide' hr
  obtain ⟨ao, cap, rfl, hlc, hcm, hn0, hi, hao⟩ := hr
  clear hn0 hlc hcm hi
  have HAO := hide' hao
  clear hao
  go_enter Try.func44, Try.ntmps44
  go_wp2
  go_loopw [5, 6] (fun o i wr => ∃ (k : Nat) (m : List Int), i = .int .i64 k ∧ k ≤ l.length ∧ k % 2 = 0 ∧ m.length ≤ k ∧ Hid (withoutF key l = m ++ withoutF key (l.drop k)) ∧ Hid (OwnI wr w.heap.size o m) ∧ Hid (Below w.heap.size w wr)) (fun _ i _ => l.length - (intOf i).toNat)
  case atStart => exact ⟨0, [], rfl, by omega, rfl, Nat.zero_le _, rfl, OwnI.nil _ _, Below.refl _ _⟩
  case round =>
    obtain ⟨k, m, rfl, hkl, hk2, hmk, hf, ho, hb⟩ := hrel
    have hsz := hb.out.size
    by_cases hlt : k < l.length
    · rcases HAO.out with hao | ⟨b, off, rfl, hc⟩
      · subst hao; simp at hlt
      have hck : wr.cell? ⟨b, off + k, none⟩ = some (.int .i64 (l.getD k 0)) := by
        rw [hb.out.cell (World.block_lt_of_cell? w ⟨b, off + k, none⟩ (hc k hlt))]; exact hc k hlt
      have HCK1 : Hid (∀ W, Below w.heap.size w W → W.cell? ⟨b, off + (k + 1), none⟩ = some (.int .i64 (l.getD (k + 1) 0))) := fun W hW => by
        rw [hW.cell (World.block_lt_of_cell? w ⟨b, off + (k + 1), none⟩ (hc (k + 1) (by omega)))]; exact hc (k + 1) (by omega)
      have HS : Hid (withoutF key (l.drop k) = (if l.getD k 0 ≠ key then [l.getD k 0, l.getD (k + 1) 0] else []) ++ withoutF key (l.drop (k + 2))) := by
        rw [drop_pair l k (by omega)]
        exact rfl
      clear hc
      generalize l.getD k 0 = y at *
      generalize l.getD (k + 1) 0 = z at *
      by_cases hy : y = key
      · have hyb : (y != key) = false := by rw [bne_eq_false_iff_eq]; exact hy
        have HE : Hid (withoutF key l = m ++ withoutF key (l.drop (k + 2))) := hide' (by rw [hf.out, HS.out, if_neg (fun h => h hy)]; rfl)
        clear hy
        go_wp2
        go_roundw
        case rel => exact ⟨k + 2, m, by go_num, by omega, by omega, by omega, HE, ho, hb⟩
        case measure => simp [intOf]; omega
      · have hyb : (y != key) = true := by rw [bne_iff_ne]; exact hy
        have HE : Hid (withoutF key l = (m ++ [y, z]) ++ withoutF key (l.drop (k + 2))) := hide' (by rw [hf.out, HS.out, if_pos hy]; simp)
        clear hy
        go_wp2_with (at_builtin; refine wpList_append_int _ rfl _ _ rfl w.heap.size _ m rfl ho.out y rfl (by omega) hsz ?_)
        intro v1 w1 ho1 hb1
        have HO1 := hide' ho1
        have HB1 := hide' (hb.out.trans hb1)
        have hs1 := HB1.out.size
        have hck1 := HCK1.out w1 HB1.out
        clear ho1 hb1 hck
        go_wp2_with (at_builtin; refine wpList_append_int _ rfl _ _ rfl w.heap.size _ (m ++ [y]) rfl HO1.out z rfl (by simp; omega) hs1 ?_)
        intro v2 w2 ho2 hb2
        have HO2 := hide' ho2
        have HB2 := hide' (HB1.out.trans hb2)
        clear ho2 hb2 hck1
        go_wp2
        go_roundw
        case rel => exact ⟨k + 2, m ++ [y, z], by go_num, by omega, by omega, by simp; omega, HE, HO2, HB2⟩
        case measure => simp [intOf]; omega
    · have HE : Hid (withoutF key l = m) := hide' (by
        rw [hf.out, List.drop_of_length_le (by omega)]
        simp [withoutF])
      go_wp2
      go_ret
      exact ⟨_, rfl, by rw [HE.out]; exact ho.out, hb.out⟩

set_option maxRecDepth 100000 in
set_option maxHeartbeats 1000000 in
theorem refWith_any (v : Value) (l : List Int) (key n : Int) (w : World) (hr : RdI w v l) (he : l.length % 2 = 0) (hl : l.length ≤ 1000) :
    Calls Try.prog 45 #[v, .int .i64 key, .int .i64 n] w fun e w' => ∃ v', e = .returned v' ∧ OwnI w' w.heap.size v' (withF key n false l) ∧ Below w.heap.size w w' := by
  have HR := hide' hr
  obtain ⟨ao, cap, rfl, hlc, hcm, hn0, hi, hao⟩ := hr
  clear hn0 hlc hcm hi
  have HAO := hide' hao
  clear hao
  go_enter Try.func45, Try.ntmps45
  go_wp2
  go_loopw [7, 8, 9] (fun o dn i wr => ∃ (k : Nat) (m : List Int) (d : Bool), i = .int .i64 k ∧ dn = .bool d ∧ k ≤ l.length ∧ k % 2 = 0 ∧ m.length ≤ 2 * k ∧ Hid (withF key n false l = m ++ withF key n d (l.drop k)) ∧ Hid (OwnI wr w.heap.size o m) ∧ Hid (Below w.heap.size w wr)) (fun _ _ i _ => l.length - (intOf i).toNat)
  case atStart => exact ⟨0, [], false, rfl, rfl, by omega, rfl, by simp, rfl, OwnI.nil _ _, Below.refl _ _⟩
  case round =>
    obtain ⟨k, m, d, rfl, rfl, hkl, hk2, hmk, hf, ho, hb⟩ := hrel
    have hsz := hb.out.size
    by_cases hlt : k < l.length
    · rcases HAO.out with hao | ⟨b, off, rfl, hc⟩
      · subst hao; simp at hlt
      have HCK0 : Hid (∀ W, Below w.heap.size w W → W.cell? ⟨b, off + k, none⟩ = some (.int .i64 (l.getD k 0))) := fun W hW => by
        rw [hW.cell (World.block_lt_of_cell? w ⟨b, off + k, none⟩ (hc k hlt))]; exact hc k hlt
      have HCK1 : Hid (∀ W, Below w.heap.size w W → W.cell? ⟨b, off + (k + 1), none⟩ = some (.int .i64 (l.getD (k + 1) 0))) := fun W hW => by
        rw [hW.cell (World.block_lt_of_cell? w ⟨b, off + (k + 1), none⟩ (hc (k + 1) (by omega)))]; exact hc (k + 1) (by omega)
      have hck := HCK0.out wr hb.out
      have HS := hide' (withF_at key n l k d (by omega))
      clear hc
      generalize l.getD k 0 = y at *
      generalize l.getD (k + 1) 0 = z at *
      have h3 : (d = false ∧ key ≤ y ∧ y = key) ∨ (d = false ∧ key ≤ y ∧ y ≠ key) ∨ (d = false ∧ y < key) ∨ (d = true ∧ y = key) ∨ (d = true ∧ y ≠ key) := by
        cases d
        · by_cases h1 : key ≤ y
          · by_cases h2 : y = key
            · exact .inl ⟨rfl, h1, h2⟩
            · exact .inr (.inl ⟨rfl, h1, h2⟩)
          · exact .inr (.inr (.inl ⟨rfl, by omega⟩))
        · by_cases h2 : y = key
          · exact .inr (.inr (.inr (.inl ⟨rfl, h2⟩)))
          · exact .inr (.inr (.inr (.inr ⟨rfl, h2⟩)))
      rcases h3 with ⟨rfl, h1, h2⟩ | ⟨rfl, h1, h2⟩ | ⟨rfl, h1⟩ | ⟨rfl, h2⟩ | ⟨rfl, h2⟩
      · have hyb : (y != key) = false := by rw [bne_eq_false_iff_eq]; exact h2
        have HE : Hid (withF key n false l = (m ++ [key, n]) ++ withF key n true (l.drop (k + 2))) := hide' (by
          rw [hf.out, HS.out, if_pos ⟨rfl, h1⟩, if_neg (fun h => h h2), decide_eq_true h1]
          simp)
        clear h2
        go_wp2_with (at_builtin; refine wpList_append_int _ rfl _ _ rfl w.heap.size _ m rfl ho.out key rfl (by omega) hsz ?_)
        intro v1 w1 ho1 hb1
        have HO1 := hide' ho1
        have HB1 := hide' (hb.out.trans hb1)
        have hs1 := HB1.out.size
        clear ho1 hb1 hck
        go_wp2_with (at_builtin; refine wpList_append_int _ rfl _ _ rfl w.heap.size _ (m ++ [key]) rfl HO1.out n rfl (by simp; omega) hs1 ?_)
        intro v2 w2 ho2 hb2
        have HO2 := hide' ho2
        have HB2 := hide' (HB1.out.trans hb2)
        have hck2 := HCK0.out w2 HB2.out
        clear ho2 hb2
        go_wp2
        go_roundw
        case rel => exact ⟨k + 2, m ++ [key, n], true, by go_num, rfl, by omega, by omega, by simp; omega, HE, HO2, HB2⟩
        case measure => simp [intOf]; omega
      · have hyb : (y != key) = true := by rw [bne_iff_ne]; exact h2
        have HE : Hid (withF key n false l = (m ++ [key, n, y, z]) ++ withF key n true (l.drop (k + 2))) := hide' (by
          rw [hf.out, HS.out, if_pos ⟨rfl, h1⟩, if_pos h2, decide_eq_true h1]
          simp)
        clear h2
        go_wp2_with (at_builtin; refine wpList_append_int _ rfl _ _ rfl w.heap.size _ m rfl ho.out key rfl (by omega) hsz ?_)
        intro v1 w1 ho1 hb1
        have HO1 := hide' ho1
        have HB1 := hide' (hb.out.trans hb1)
        have hs1 := HB1.out.size
        clear ho1 hb1 hck
        go_wp2_with (at_builtin; refine wpList_append_int _ rfl _ _ rfl w.heap.size _ (m ++ [key]) rfl HO1.out n rfl (by simp; omega) hs1 ?_)
        intro v2 w2 ho2 hb2
        have HO2 := hide' ho2
        have HB2 := hide' (HB1.out.trans hb2)
        have hs2 := HB2.out.size
        have hck2 := HCK0.out w2 HB2.out
        clear ho2 hb2
        go_wp2_with (at_builtin; refine wpList_append_int _ rfl _ _ rfl w.heap.size _ (m ++ [key, n]) rfl HO2.out y rfl (by simp; omega) hs2 ?_)
        intro v3 w3 ho3 hb3
        have HO3 := hide' ho3
        have HB3 := hide' (HB2.out.trans hb3)
        have hs3 := HB3.out.size
        have hck3 := HCK1.out w3 HB3.out
        clear ho3 hb3 hck2
        go_wp2_with (at_builtin; refine wpList_append_int _ rfl _ _ rfl w.heap.size _ (m ++ [key, n, y]) rfl HO3.out z rfl (by simp; omega) hs3 ?_)
        intro v4 w4 ho4 hb4
        have HO4 := hide' ho4
        have HB4 := hide' (HB3.out.trans hb4)
        clear ho4 hb4 hck3
        go_wp2
        go_roundw
        case rel => exact ⟨k + 2, m ++ [key, n, y, z], true, by go_num, rfl, by omega, by omega, by simp; omega, HE, HO4, HB4⟩
        case measure => simp [intOf]; omega
      · have hyb : (y != key) = true := by rw [bne_iff_ne]; omega
        have HE : Hid (withF key n false l = (m ++ [y, z]) ++ withF key n false (l.drop (k + 2))) := hide' (by
          rw [hf.out, HS.out, if_neg (fun h => by omega), if_pos (by omega), decide_eq_false (by omega)]
          simp)
        go_wp2_with (at_builtin; refine wpList_append_int _ rfl _ _ rfl w.heap.size _ m rfl ho.out y rfl (by omega) hsz ?_)
        intro v1 w1 ho1 hb1
        have HO1 := hide' ho1
        have HB1 := hide' (hb.out.trans hb1)
        have hs1 := HB1.out.size
        have hck1 := HCK1.out w1 HB1.out
        clear ho1 hb1 hck
        go_wp2_with (at_builtin; refine wpList_append_int _ rfl _ _ rfl w.heap.size _ (m ++ [y]) rfl HO1.out z rfl (by simp; omega) hs1 ?_)
        intro v2 w2 ho2 hb2
        have HO2 := hide' ho2
        have HB2 := hide' (HB1.out.trans hb2)
        clear ho2 hb2 hck1
        go_wp2
        go_roundw
        case rel => exact ⟨k + 2, m ++ [y, z], false, by go_num, rfl, by omega, by omega, by simp; omega, HE, HO2, HB2⟩
        case measure => simp [intOf]; omega
      · have hyb : (y != key) = false := by rw [bne_eq_false_iff_eq]; exact h2
        have HE : Hid (withF key n false l = m ++ withF key n true (l.drop (k + 2))) := hide' (by
          rw [hf.out, HS.out, if_neg (fun h => by simp at h), if_neg (fun h => h h2)]
          simp)
        clear h2
        go_wp2
        go_roundw
        case rel => exact ⟨k + 2, m, true, by go_num, rfl, by omega, by omega, by omega, HE, ho, hb⟩
        case measure => simp [intOf]; omega
      · have hyb : (y != key) = true := by rw [bne_iff_ne]; exact h2
        have HE : Hid (withF key n false l = (m ++ [y, z]) ++ withF key n true (l.drop (k + 2))) := hide' (by
          rw [hf.out, HS.out, if_neg (fun h => by simp at h), if_pos h2]
          simp)
        clear h2
        go_wp2_with (at_builtin; refine wpList_append_int _ rfl _ _ rfl w.heap.size _ m rfl ho.out y rfl (by omega) hsz ?_)
        intro v1 w1 ho1 hb1
        have HO1 := hide' ho1
        have HB1 := hide' (hb.out.trans hb1)
        have hs1 := HB1.out.size
        have hck1 := HCK1.out w1 HB1.out
        clear ho1 hb1 hck
        go_wp2_with (at_builtin; refine wpList_append_int _ rfl _ _ rfl w.heap.size _ (m ++ [y]) rfl HO1.out z rfl (by simp; omega) hs1 ?_)
        intro v2 w2 ho2 hb2
        have HO2 := hide' ho2
        have HB2 := hide' (HB1.out.trans hb2)
        clear ho2 hb2 hck1
        go_wp2
        go_roundw
        case rel => exact ⟨k + 2, m ++ [y, z], true, by go_num, rfl, by omega, by omega, by simp; omega, HE, HO2, HB2⟩
        case measure => simp [intOf]; omega
    · have ed : l.drop k = [] := List.drop_of_length_le (by omega)
      cases d with
      | true =>
        have HE : Hid (withF key n false l = m) := hide' (by rw [hf.out, ed]; simp [withF])
        clear ed
        go_wp2
        go_ret
        exact ⟨_, rfl, by rw [HE.out]; exact ho.out, hb.out⟩
      | false =>
        have HE : Hid (withF key n false l = m ++ [key, n]) := hide' (by rw [hf.out, ed]; simp [withF])
        clear ed
        go_wp2_with (at_builtin; refine wpList_append_int _ rfl _ _ rfl w.heap.size _ m rfl ho.out key rfl (by omega) hsz ?_)
        intro v1 w1 ho1 hb1
        have HO1 := hide' ho1
        have HB1 := hide' (hb.out.trans hb1)
        have hs1 := HB1.out.size
        clear ho1 hb1
        go_wp2_with (at_builtin; refine wpList_append_int _ rfl _ _ rfl w.heap.size _ (m ++ [key]) rfl HO1.out n rfl (by simp; omega) hs1 ?_)
        intro v2 w2 ho2 hb2
        have HO2 := hide' ho2
        have HB2 := hide' (HB1.out.trans hb2)
        clear ho2 hb2
        go_wp2
        go_ret
        exact ⟨_, rfl, by rw [HE.out]; exact HO2.out, HB2.out⟩

end Go.Proofs.Ytclankoffcfkfaa
