/- Proved: for all bytes and every three places the law CrcOdd answers true (and the call leaves all older memory as it was). No condition. -/
import Derived.Test.YthgcgpmdllcdhaaCrcTurn
import Derived.OpenShut
import Derived.ChangeOld
import Derived.RegionTactic
import Derived.BigRegion
namespace Go.Proofs.Ythgcgpmdllcdhaa.crcOdd
open Go.ChangeShapes Go.WideShapes Go.ChangeAt Go.RowKit

/-- One bit, or three, are turned: the sums are two. -/
theorem odd_plain (b c : List UInt8) (X : Nat) (hl : c.length = b.length) (hX : X < 2 ^ (8 * b.length + 32)) (ho : odds (8 * b.length + 32) X = true) (hc : Lib.leNat c = Lib.leNat b ^^^ X) : crcMore 0 b ≠ crcMore 0 c := by
  intro e
  rw [sum_same b c hl.symm, hc, ← Nat.xor_assoc, Nat.xor_self, Nat.zero_xor] at e
  exact odd_seen (8 * b.length) _ X hX ho e

theorem pow_lt (n k : Nat) (h : k < n) : 2 ^ k < 2 ^ (n + 32) := Nat.pow_lt_pow_right (by decide) (by omega)

theorem one_plain (b : List UInt8) (x : Nat) (hx : x < 8 * b.length) : crcMore 0 b ≠ crcMore 0 (turn b x) :=
  odd_plain b (turn b x) (2 ^ x) (turn_length b x) (pow_lt _ _ hx) (odds_pow _ _ (by omega)) (leNat_turn b x hx)

theorem three_plain (b : List UInt8) (x y z : Nat) (hx : x < 8 * b.length) (hy : y < 8 * b.length) (hz : z < 8 * b.length) : crcMore 0 b ≠ crcMore 0 (turn (turn (turn b x) y) z) := by
  refine odd_plain b _ (2 ^ x ^^^ 2 ^ y ^^^ 2 ^ z) (by rw [turn_length, turn_length, turn_length]) ?_ ?_ ?_
  · exact Nat.xor_lt_two_pow (Nat.xor_lt_two_pow (pow_lt _ _ hx) (pow_lt _ _ hy)) (pow_lt _ _ hz)
  · rw [odds_xor, odds_xor, odds_pow _ _ (by omega), odds_pow _ _ (by omega), odds_pow _ _ (by omega)]
    rfl
  · rw [leNat_turn _ z (by rw [turn_length, turn_length]; exact hz), leNat_turn _ y (by rw [turn_length]; exact hy), leNat_turn _ x hx, Nat.xor_assoc, Nat.xor_assoc, Nat.xor_assoc]

theorem turn_int (y : Nat) (c : List UInt8) (K : Nat) (hy : (c.getD (K / 8) 0).toNat = y) : bits .xor .u8 (y : Int) (2 ^ (K % 8) % 256) = bits .xor .u8 ((c.getD (K / 8) 0).toNat : Int) ((2 ^ (K % 8) : Nat) : Int) := by
  have h2 := pow8_lt K
  have e2 : (2 : Int) ^ (K % 8) = ((2 ^ (K % 8) : Nat) : Int) := by simp
  rw [hy, e2]
  generalize 2 ^ (K % 8) = q at h2 ⊢
  congr 1
  omega

/-- The bytes behind k rounds. -/
def upto (b : List UInt8) (x y z : Nat) : Nat → List UInt8
  | 0 => b
  | 1 => turn b x
  | 2 => turn (turn b x) y
  | _ => turn (turn (turn b x) y) z

def nth (x y z : Nat) : Nat → Nat
  | 0 => x
  | 1 => y
  | _ => z

theorem upto_succ (b : List UInt8) (x y z k : Nat) (h : k < 3) : upto b x y z (k + 1) = turn (upto b x y z k) (nth x y z k) := by
  match k, h with
  | 0, _ => rfl
  | 1, _ => rfl
  | 2, _ => rfl

theorem upto_length (b : List UInt8) (x y z k : Nat) : (upto b x y z k).length = b.length := by
  unfold upto
  split <;> simp [turn_length]

theorem nth_lt {x y z m : Nat} (hx : x < m) (hy : y < m) (hz : z < m) (k : Nat) : nth x y z k < m := by
  unfold nth
  split <;> assumption

set_option maxRecDepth 100000 in
set_option maxHeartbeats 2000000 in
theorem core (ao : Option Addr) (cap : Nat) (l : List UInt8) (x y z : Nat) (w : World) (hr : Rd w (.slice ao l.length cap) l) (hl : (l.length : Int) ≤ 1000) (hx : (x : Int) < 8 * (l.length : Int)) (hy : (y : Int) < 8 * (l.length : Int)) (hz : (z : Int) < 8 * (l.length : Int)) :
    Calls Try.prog 6 #[.slice ao l.length cap, .int .i64 (x : Int), .int .i64 (y : Int), .int .i64 (z : Int)] w fun e w' => e = .returned (.bool true) ∧ Below w.heap.size w w' := by
  have HA := hide (awake_any w)
  have HR := hide hr
  clear hr
  go_enter Try.func6, Try.ntmps6
  go_wp2_with fail
  refine HA.out.mono ?_
  rintro e w1 ⟨rfl, hb⟩
  have HB1 := hide hb
  clear hb HA
  have hs1 := HB1.out.size
  go_wp2_with (at_builtin; refine wpList_append_rd _ rfl _ _ rfl w1.heap.size _ [] rfl (Own.nil _ _) _ l rfl (HR.out.below HB1.out (Nat.le_refl _)) (by simp; omega) (Nat.le_refl _) ?_)
  intro v2 w2 ho2 hb2
  have HB2 := hide hb2
  obtain ⟨g, cap2, rfl, hgB, hg2⟩ : ∃ g cap2, v2 = .slice (some ⟨g, 0, none⟩) l.length cap2 ∧ w1.heap.size ≤ g ∧ g < w2.heap.size := by
    rcases ho2.2 with ⟨_, h0⟩ | ⟨g, cap2, cur, hv, hg, hh, _⟩
    · have h1 : l.length = 0 := by simpa using h0
      omega
    · exact ⟨g, cap2, by simpa using hv, hg, (Array.getElem?_eq_some_iff.1 hh).1⟩
  have HO2 := hide ho2
  clear ho2 hb2
  go_wp2
  go_loopw [12] (fun i wr => ∃ k : Nat, k ≤ 3 ∧ i = .int .i64 (k : Int) ∧ Hid (wr.ownsRow w1.heap.size 5 1 (.slice (some ⟨g, 0, none⟩) l.length cap2) l.length (Lib.byteCells (upto l x y z k))) ∧ Hid (Below w1.heap.size w1 wr) ∧ Hid (∀ j, j < 3 → wr.cell? ⟨w2.heap.size, j, none⟩ = some (.int .i64 (nth x y z j : Nat))) ∧ Hid (w2.heap.size < wr.heap.size)) (fun i _ => 3 - (intOf i).toNat)
  case atStart =>
    refine ⟨0, Nat.zero_le _, rfl, World.ownsRow.alloc HO2.out _, HB2.out.alloc HB2.out.size _, ?_, ?_⟩
    · intro j hj
      match j, hj with
      | 0, _ => simp [nth]
      | 1, _ => simp [nth]
      | 2, _ => simp [nth]
    · show _ < _
      simp
  case round =>
    obtain ⟨k, hk, rfl, ho, hb, hat, hsz⟩ := hrel
    by_cases hlt : k < 3
    · have hA : nth x y z k < 8 * l.length := nth_lt (by omega) (by omega) (by omega) k
      have hcA := hat.out k hlt
      have HU := hide (upto_succ l x y z k hlt)
      have hul := upto_length l x y z k
      generalize nth x y z k = A at *
      have hAi : (A : Int) < 8 * (l.length : Int) := by omega
      have hcell : wr.cell? ⟨g, A / 8, none⟩ = some (.int .u8 ((upto l x y z k).getD (A / 8) 0).toNat) := by
        rw [World.ownsRow.cellAt ho.out _ (by omega), byteCells_get _ _ (by omega)]
      have hfr : wr.frozen? ⟨g, A / 8, none⟩ = false := World.ownsRow.frozenAt ho.out _
      have HT := hide (turn_int _ (upto l x y z k) A rfl)
      have hst := World.ownsRow.stored ho.out (A / 8) (.int .u8 (bits .xor .u8 (((upto l x y z k).getD (A / 8) 0).toNat : Int) (2 ^ (A % 8) % 256)))
      rw [turn_cells (upto l x y z k) A HT.out, ← HU.out] at hst
      have HST := hide hst
      clear hst hul HU HT hA
      generalize ((upto l x y z k).getD (A / 8) 0).toNat = yy at *
      go_wp2
      go_region
      all_goals go_wp2
      go_roundw
      case rel =>
        refine ⟨k + 1, by omega, by go_num, World.ownsRow.drew HST.out.1, (hb.out.setCell hgB _).drew, ?_, ?_⟩
        · intro j hj
          rw [← hat.out j hj]
          exact World.cell?_of_block (Below.heap_setCell wr _ _ _ (by show w2.heap.size ≠ g; omega))
        · have h := hsz.out
          show _ < _
          simp [World.setCell]
          exact h
      case measure => simp [intOf]; omega
    · obtain rfl : k = 3 := by omega
      have HBr := hide (HB1.out.trans (hb.out.mono hs1))
      have hRc : Rd wr (.slice (some ⟨g, 0, none⟩) l.length cap2) (turn (turn (turn l x) y) z) := (Own.mk' ho.out (upto_length l x y z 3).symm rfl).rd
      have HRc := hide hRc
      have hp3 := three_plain l x y z (by omega) (by omega) (by omega)
      have hp1 := one_plain l x (by omega)
      have C1 : Hid (∀ W, Below wr.heap.size wr W → Calls Try.prog 11 #[.slice ao l.length cap] W fun e w' => e = .returned (.int .u32 (crcMore 0 l : Nat)) ∧ Below W.heap.size W w' ∧ Below wr.heap.size wr w') := fun W hW =>
        (sum_any _ l W ((HR.out.below HBr.out (Nat.le_refl _)).below hW (Nat.le_refl _))).mono (fun e w' h => ⟨h.1, h.2, hW.trans (h.2.mono hW.size)⟩)
      have C2 : Hid (∀ W, Below wr.heap.size wr W → Calls Try.prog 11 #[.slice (some ⟨g, 0, none⟩) l.length cap2] W fun e w' => e = .returned (.int .u32 (crcMore 0 (turn (turn (turn l x) y) z) : Nat)) ∧ Below W.heap.size W w' ∧ Below wr.heap.size wr w') := fun W hW =>
        (sum_any _ _ W (HRc.out.below hW (Nat.le_refl _))).mono (fun e w' h => ⟨h.1, h.2, hW.trans (h.2.mono hW.size)⟩)
      have C3 : Hid (∀ v W, Below wr.heap.size wr W → Rd W v (turn l x) → Calls Try.prog 11 #[v] W fun e w' => e = .returned (.int .u32 (crcMore 0 (turn l x) : Nat)) ∧ Below W.heap.size W w' ∧ Below wr.heap.size wr w') := fun v W hW hR =>
        (sum_any _ _ W hR).mono (fun e w' h => ⟨h.1, h.2, hW.trans (h.2.mono hW.size)⟩)
      obtain ⟨X, hX⟩ : ∃ X : Int, X = ((crcMore 0 l : Nat) : Int) := ⟨_, rfl⟩
      obtain ⟨Y, hY⟩ : ∃ Y : Int, Y = ((crcMore 0 (turn (turn (turn l x) y) z) : Nat) : Int) := ⟨_, rfl⟩
      obtain ⟨Z, hZ⟩ : ∃ Z : Int, Z = ((crcMore 0 (turn l x) : Nat) : Int) := ⟨_, rfl⟩
      have q1 : (X != Y) = true := by rw [bne_iff_ne]; omega
      have q2 : (X != Z) = true := by rw [bne_iff_ne]; omega
      rw [← hX] at C1
      rw [← hY] at C2
      rw [← hZ] at C3
      clear hX hY hZ hp1 hp3 hRc HRc ho HB2 HO2 hat hsz
      go_wp2_with (at_builtin; refine wpList_append_rd _ rfl _ _ rfl wr.heap.size _ [] rfl (Own.nil _ _) _ l rfl (HR.out.below HBr.out (Nat.le_refl _)) (by simp; omega) (Nat.le_refl _) ?_)
      intro v5 w5 ho5 hb5
      have HB5 := hide hb5
      obtain ⟨g5, cap5, rfl, hgB5⟩ : ∃ g5 cap5, v5 = .slice (some ⟨g5, 0, none⟩) l.length cap5 ∧ wr.heap.size ≤ g5 := by
        rcases ho5.2 with ⟨_, h0⟩ | ⟨g5, cap5, cur, hv, hg, hh, _⟩
        · have h1 : l.length = 0 := by simpa using h0
          omega
        · exact ⟨g5, cap5, by simpa using hv, hg⟩
      have hcell : w5.cell? ⟨g5, x / 8, none⟩ = some (.int .u8 (l.getD (x / 8) 0).toNat) := by
        rw [World.ownsRow.cellAt ho5 _ (by simp; omega), ← byteCells_get _ _ (by omega)]
      have hfr : w5.frozen? ⟨g5, x / 8, none⟩ = false := World.ownsRow.frozenAt ho5 _
      have hst := World.ownsRow.stored ho5 (x / 8) (.int .u8 (bits .xor .u8 ((l.getD (x / 8) 0).toNat : Int) (2 ^ (x % 8) % 256)))
      rw [turn_cells l x (turn_int _ l x rfl)] at hst
      have HR6 := hide (Own.mk' (l := turn l x) hst.1 (by simp [turn_length]) rfl).rd
      have HB6 : Hid (Below wr.heap.size wr (w5.setCell ⟨g5, x / 8, none⟩ (.int .u8 (bits .xor .u8 ((l.getD (x / 8) 0).toNat : Int) (2 ^ (x % 8) % 256))))) := hb5.setCell hgB5 _
      clear hst ho5 hb5
      generalize (l.getD (x / 8) 0).toNat = yy at *
      go_wp2_with fail
      refine (C1.out _ HB6.out).mono ?_
      rintro e w7 ⟨rfl, p7, h7⟩
      have P7 := hide p7
      have H7 := hide h7
      clear p7 h7
      go_wp2_with fail
      refine (C2.out _ H7.out).mono ?_
      rintro e w8 ⟨rfl, p8, h8⟩
      have P8 := hide p8
      have H8 := hide h8
      clear p8 h8
      go_wp2_with fail
      refine (C1.out _ H8.out).mono ?_
      rintro e w9 ⟨rfl, p9, h9⟩
      have P9 := hide p9
      have H9 := hide h9
      clear p9 h9
      go_wp2_with fail
      refine (C3.out _ _ H9.out (((HR6.out.below P7.out (Nat.le_refl _)).below P8.out (Nat.le_refl _)).below P9.out (Nat.le_refl _))).mono ?_
      rintro e w10 ⟨rfl, p10, h10⟩
      have H10 := hide (HBr.out.trans (h10.mono HBr.out.size))
      clear p10 h10
      go_wp2
      go_ret
      exact ⟨rfl, H10.out⟩

set_option maxRecDepth 100000 in
set_option maxHeartbeats 2000000 in
theorem walk (v : Value) (l : List UInt8) (x y z : Int) (w : World) (hr : Rd w v l) (w1 : (Lit.int .i64 x).wf = true) (w2 : (Lit.int .i64 y).wf = true) (w3 : (Lit.int .i64 z).wf = true) :
    Calls Try.prog 6 #[v, .int .i64 x, .int .i64 y, .int .i64 z] w fun e w' => e = .returned (.bool true) ∧ Below w.heap.size w w' := by
  obtain ⟨hx0, hx1⟩ := i64_bd w1
  obtain ⟨hy0, hy1⟩ := i64_bd w2
  obtain ⟨hz0, hz1⟩ := i64_bd w3
  clear w1 w2 w3
  have HA := hide (awake_any w)
  have HR := hide hr
  obtain ⟨ao, cap, rfl, hlc, hcm, _, _⟩ := hr
  by_cases hgood : (l.length : Int) ≤ 1000 ∧ 0 ≤ x ∧ x < 8 * (l.length : Int) ∧ 0 ≤ y ∧ y < 8 * (l.length : Int) ∧ 0 ≤ z ∧ z < 8 * (l.length : Int)
  · obtain ⟨h1, h2, h3, h4, h5, h6, h7⟩ := hgood
    obtain ⟨a, rfl⟩ : ∃ a : Nat, x = (a : Int) := Int.eq_ofNat_of_zero_le h2
    obtain ⟨b, rfl⟩ : ∃ b : Nat, y = (b : Int) := Int.eq_ofNat_of_zero_le h4
    obtain ⟨c, rfl⟩ : ∃ c : Nat, z = (c : Int) := Int.eq_ofNat_of_zero_le h6
    exact core ao cap l a b c w HR.out h1 h3 h5 h7
  · rcases (by omega : (1000 : Int) < (l.length : Int) ∨ ((l.length : Int) ≤ 1000 ∧ x < 0) ∨ ((l.length : Int) ≤ 1000 ∧ 0 ≤ x ∧ 8 * (l.length : Int) ≤ x) ∨ ((l.length : Int) ≤ 1000 ∧ 0 ≤ x ∧ x < 8 * (l.length : Int) ∧ y < 0) ∨ ((l.length : Int) ≤ 1000 ∧ 0 ≤ x ∧ x < 8 * (l.length : Int) ∧ 0 ≤ y ∧ 8 * (l.length : Int) ≤ y) ∨ ((l.length : Int) ≤ 1000 ∧ 0 ≤ x ∧ x < 8 * (l.length : Int) ∧ 0 ≤ y ∧ y < 8 * (l.length : Int) ∧ z < 0) ∨ ((l.length : Int) ≤ 1000 ∧ 0 ≤ x ∧ x < 8 * (l.length : Int) ∧ 0 ≤ y ∧ y < 8 * (l.length : Int) ∧ 0 ≤ z ∧ 8 * (l.length : Int) ≤ z)) with h | ⟨h1, h⟩ | ⟨h1, h2, h⟩ | ⟨h1, h2, h3, h⟩ | ⟨h1, h2, h3, h4, h⟩ | ⟨h1, h2, h3, h4, h5, h⟩ | ⟨h1, h2, h3, h4, h5, h6, h⟩
    all_goals
      clear hgood
      go_enter Try.func6, Try.ntmps6
      go_wp2_with fail
      refine HA.out.mono ?_
      rintro e w1 ⟨rfl, hb⟩
      have HB := hide hb
      clear hb HA HR
      go_wp2
      go_ret
      exact ⟨rfl, HB.out⟩

theorem own : ownKnob Try.prog.godebug = none := by kernel_rfl
theorem laidOut : laidOutB Try.prog = true := by kernel_rfl

set_option linter.unusedVariables false in
set_option maxRecDepth 100000 in
theorem lifted (os : Os) (started : os.Started) (H : Type) (enc : TypeId × Value → H) :
    ReturnsInHanded {} Try.checked os 6 .any (Rows.crcOddSpec.pre6 enc Try.prog Try.f6 Rows.crcOddRow.domain false) (Rows.crcOddSpec.post enc Try.prog Try.f6 false true false false) := by
  refine returnsInHanded_of_change (C := Try.checked) own started (by kernel_rfl) Try.func6
    (ChangeSpec.witness6 (enc := enc) (C := Try.checked) false ⟨#[], #[.slice none 0 0, .int .i64 0, .int .i64 0, .int .i64 0], []⟩ 8 (by kernel_rfl) (by kernel_rfl) (by kernel_rfl) (by kernel_rfl)) ?_
  intro W base args ds gs before hval0 hW hcnd _
  have hval : ∀ (j : Nat) t v, Try.f6.params[j]? = some t → args[j]? = some v → Value.okWide Try.prog W .any base t v := hval0
  have hW' := hW
  obtain ⟨p, q, hA0, hV, rfl, hfz, hnd⟩ := hW
  have hA : DataW.TrodAll enc Try.prog W 0 (fun _ => true) true Try.f6.params.toList args.toList ds p := hA0
  rw [Try.params6] at hA hval
  obtain ⟨v0, vs0, d0, ds0, p0, q0, hargs, rfl, rfl, h0, r0⟩ := trodAll_cons hA
  obtain ⟨v1, vs1, d1, ds1, p1, q1, rfl, rfl, rfl, h1, r1⟩ := trodAll_cons r0
  obtain ⟨v2, vs2, d2, ds2, p2, q2, rfl, rfl, rfl, h2, r2⟩ := trodAll_cons r1
  obtain ⟨v3, vs3, d3, ds3, p3, q3, rfl, rfl, rfl, h3, r3⟩ := trodAll_cons r2
  obtain ⟨rfl, rfl, rfl⟩ := trodAll_nil r3
  obtain rfl : args = #[v0, v1, v2, v3] := by cases args; simp_all
  obtain ⟨rfl, rfl⟩ := trodVars_none hV
  obtain ⟨a0, len0, cap0, rfl⟩ := okWide_slice Try.underlying23 (hval 0 23 v0 rfl rfl)
  have k0 := h0
  have lt0 : ∀ x ∈ p0, x.block < W.heap.size := by obtain ⟨m, hm⟩ := k0; exact DataW.trod_lt m _ _ _ hm
  obtain ⟨l0, w0⟩ : ∃ l, Rd W (.slice a0 len0 cap0) l := by
    obtain ⟨fuel, hf⟩ := h0
    rcases open_ints Try.underlying23 Try.underlying5 (by kernel_rfl) hf with ⟨hcs, _⟩ | ⟨x, l, c, zs, hcs, _, hl, hm, hz, _, hcell, hwz⟩
    · simp [Value.cells] at hcs
      obtain ⟨rfl, rfl, rfl⟩ := hcs
      exact ⟨[], Rd.nil _⟩
    · simp [Value.cells] at hcs
      obtain ⟨rfl, rfl, rfl⟩ := hcs
      exact ⟨_, Rd.ofRow hl hm (by simpa using hz) hcell hwz⟩
  obtain ⟨a1, rfl, rfl, rfl, w1⟩ := open_int Try.underlying3 (hval 1 3 v1 rfl rfl) h1
  obtain ⟨a2, rfl, rfl, rfl, w2⟩ := open_int Try.underlying3 (hval 2 3 v2 rfl rfl) h2
  obtain ⟨a3, rfl, rfl, rfl, w3⟩ := open_int Try.underlying3 (hval 3 3 v3 rfl rfl) h3
  clear hA0 hval0
  refine (walk _ l0 a1 a2 a3 W w0 w1 w2 w3).mono fun e W' ⟨he, bel⟩ => ?_
  subst he
  exact ⟨_, rfl, _, _, _, [], _, [], hW', trodAll_mk1 (shut_bool Try.underlying4 _), (trodAll_cons_mk (Below.trod laidOut (by kernel_rfl) (of_decide_eq_true (by kernel_rfl)) k0 bel lt0) (trodAll_cons_mk (shut_int Try.underlying3 w1) (trodAll_cons_mk (shut_int Try.underlying3 w2) (trodAll_cons_mk (shut_int Try.underlying3 w3) trodAll_mk0)))), rfl, bel.frame _, fun h => by cases h⟩

theorem over : Rows.crcOddRow.holds Try.pinned (OpenSpec.ofChange Rows.crcOddSpec) :=
  OpenClaim.holds_of_wide 6 Try.f6 rfl rfl rfl rfl rfl rfl rfl ⟨rfl, rfl, rfl, rfl, rfl⟩ rfl rfl rfl rfl rfl (by kernel_rfl) Try.func6 (by kernel_rfl)
    (of_decide_eq_true (by kernel_rfl)) (by unfold Func.isWrapper; first | (rw [if_pos (by decide +kernel)]; kernel_rfl) | (rw [if_neg (by decide +kernel)]; exact ⟨rfl, rfl⟩))
    (fun os started H enc _ => lifted os started H enc)

end Go.Proofs.Ythgcgpmdllcdhaa.crcOdd
namespace Go.Proofs.Ythgcgpmdllcdhaa

theorem crcOdd_holds : Rows.CrcOddSaid := crcOdd.over

end Go.Proofs.Ythgcgpmdllcdhaa
