/- Contract of ferrymanref05: DecodeState. -/
import Derived.Test.YtanmjihiceibbaaGreatRef05B
namespace Go.Proofs.YtanmjihiceibbaaGreat
open Go.RowKit

/-- What is decoded: the state, or the zero one and the error. -/
def DecodedS (w : World) (r : St × Int) (e : Ending) (w' : World) : Prop :=
  ∃ vl, e = .returned (.tuple #[.agg #[.int .i64 r.1.kind, vl, .bool r.1.shut, .int .i64 r.1.eng], .int .i64 r.2]) ∧ RdI w' vl r.1.L ∧ I64 r.1.kind ∧ I64 r.1.eng ∧ (∀ b, vl.ownBlock = some b → w.heap.size ≤ b) ∧ Below w.heap.size w w'

theorem DecodedS.zero {w w' : World} (n : Int) (hb : Below w.heap.size w w') : DecodedS w (zeroS, n) (.returned (.tuple #[.agg #[.int .i64 0, .slice none 0 0, .bool false, .int .i64 0], .int .i64 n])) w' :=
  ⟨_, rfl, RdI.nil _, (i64_small (by decide) (by decide) : I64 0), (i64_small (by decide) (by decide) : I64 0), fun b hb => by simp [Value.ownBlock] at hb, hb⟩

theorem readL_add : ∀ (a b : Nat) (l : List UInt8), readL (a + b) l = (readL a l).bind fun x => (readL b (l.drop x.2)).map fun y => (x.1 ++ y.1, x.2 + y.2)
  | 0, b, l => by
    rw [Nat.zero_add, readL]
    simp
  | a + 1, b, l => by
    rw [Nat.add_right_comm, readL, readL, readL_add a b]
    by_cases h : (dec64 l).2 = 0
    · rw [if_pos h, if_pos h]
      rfl
    · rw [if_neg h, if_neg h]
      cases readL a (l.drop (dec64 l).2) with
      | none => rfl
      | some x =>
        obtain ⟨xs, u⟩ := x
        simp only [Option.bind_some, Option.map_some, List.drop_drop]
        cases readL b (l.drop ((dec64 l).2 + u)) with
        | none => rfl
        | some y => simp [Nat.add_assoc]

theorem readL_one (l : List UInt8) : readL 1 l = if (dec64 l).2 = 0 then none else some ([zag (dec64 l).1], (dec64 l).2) := by
  rw [readL]
  split
  · rfl
  · rfl

theorem readL_next {k : Nat} {l : List UInt8} {xs : List Int} {u : Nat} (h : readL k l = some (xs, u)) (h0 : (dec64 (l.drop u)).2 ≠ 0) : readL (k + 1) l = some (xs ++ [zag (dec64 (l.drop u)).1], u + (dec64 (l.drop u)).2) := by
  rw [readL_add, h]
  simp only [Option.bind_some]
  rw [readL_one, if_neg h0]
  rfl

theorem readL_stop {k m : Nat} {l : List UInt8} {xs : List Int} {u : Nat} (h : readL k l = some (xs, u)) (h0 : (dec64 (l.drop u)).2 = 0) (hm : k < m) : readL m l = none := by
  obtain ⟨d, rfl⟩ : ∃ d, m = k + 1 + d := ⟨m - (k + 1), by omega⟩
  rw [readL_add, readL_add k 1, h]
  simp only [Option.bind_some]
  rw [readL_one, if_pos h0]
  rfl

/-- Where the reading of numbers stands: the answer's box at N, the state's box behind it. -/
structure DecIn (w : World) (kind g : Int) (shut : Bool) (R : List UInt8) (k : Nat) (wr : World) (vk : Value) (xs : List Int) (u : Nat) : Prop where
  read : readL k R = some (xs, u)
  res : Bx wr w.heap.size #[.int .i64 0, .slice none 0 0, .bool false, .int .i64 0]
  box : Bx wr (w.heap.size + 1) #[.int .i64 kind, vk, .bool shut, .int .i64 g]
  own : OwnI wr (w.heap.size + 1 + 1) vk xs
  below : Below w.heap.size w wr

theorem DecIn.next {w wr W1 : World} {kind g : Int} {shut : Bool} {R : List UInt8} {k : Nat} {vk v1 : Value} {xs : List Int} {u : Nat} (h : DecIn w kind g shut R k wr vk xs u) {x : Int} {j : Nat} (hx : x = zag (dec64 (R.drop u)).1) (hj : j = (dec64 (R.drop u)).2) (h0 : j ≠ 0) (ho : OwnI W1 (w.heap.size + 1 + 1) v1 (xs ++ [x])) (hb : Below (w.heap.size + 1 + 1) wr W1) :
    DecIn w kind g shut R (k + 1) (W1.setCell ⟨w.heap.size + 1, 1, none⟩ v1) v1 (xs ++ [x]) (u + j) := by
  have hlt := h.box.lt
  refine ⟨?_, ?_, ?_, ownsRow_setCell_below ho (by show w.heap.size + 1 < w.heap.size + 1 + 1; omega) _, ?_⟩
  · rw [hx, hj]
    exact readL_next h.read (by rw [← hj]; exact h0)
  · refine (Below.heap_setCell _ _ _ _ (by show w.heap.size ≠ w.heap.size + 1; omega)).trans ?_
    exact (hb.block _ (by omega)).trans h.res
  · have hb1 : W1.heap[w.heap.size + 1]? = _ := (hb.block _ (by omega)).trans h.box
    have := heap_setCell_same W1 (w.heap.size + 1) 1 _ _ v1 hb1
    unfold Bx
    simpa using this
  · exact (h.below.trans (hb.mono (by omega))).setCell (by show w.heap.size ≤ w.heap.size + 1; omega) _

set_option maxRecDepth 100000 in
set_option maxHeartbeats 2000000 in
theorem refDecodeState_any (v : Value) (l : List UInt8) (w : World) (hr : Rd w v l) :
    Calls Tryz.prog 53 #[v] w fun e w' => DecodedS w (decS l) e w' := by
  obtain ⟨va, vc, rfl, hvr⟩ : ∃ va vc, v = .slice va l.length vc ∧ Rd w (.slice va l.length vc) l := by
    have h := hr
    obtain ⟨va, vc, rfl, _⟩ := hr
    exact ⟨va, vc, rfl, h⟩
  have HR := hide hr
  clear hvr
  have HB0 : Hid (∀ X, Below w.heap.size w (w.alloc X)) := fun X => (Below.refl _ _).alloc (Nat.le_refl _) X
  have HB1 : Hid (∀ X Y, Below w.heap.size w ((w.alloc X).alloc Y)) := fun X Y => (HB0.out X).alloc (by simp) Y
  have hml : (l.length : Int) ≤ 9223372036854775807 := by
    obtain ⟨_, _, _, h2, h3, _⟩ := hr
    unfold maxLen at h3
    omega
  have HG1 : Hid (∀ W, Rd W (.slice va l.length vc) l → Calls Tryz.prog 50 #[.slice va l.length vc] W fun e w' => e = .returned (.tuple #[.int .i64 ((dec62 l).1 : Nat), .int .i64 ((dec62 l).2 : Nat)]) ∧ w' = W) := fun W h => refGet_any _ l W h
  have HG2 : Hid (∀ v1 W, Rd W v1 (l.drop (dec62 l).2) → Calls Tryz.prog 50 #[v1] W fun e w' => e = .returned (.tuple #[.int .i64 ((dec62 (l.drop (dec62 l).2)).1 : Nat), .int .i64 ((dec62 (l.drop (dec62 l).2)).2 : Nat)]) ∧ w' = W) := fun v1 W h => refGet_any v1 _ W h
  have HG3 : Hid (∀ v1 W, Rd W v1 (l.drop ((dec62 l).2 + (dec62 (l.drop (dec62 l).2)).2)) → Calls Tryz.prog 50 #[v1] W fun e w' => e = .returned (.tuple #[.int .i64 ((dec62 (l.drop ((dec62 l).2 + (dec62 (l.drop (dec62 l).2)).2))).1 : Nat), .int .i64 ((dec62 (l.drop ((dec62 l).2 + (dec62 (l.drop (dec62 l).2)).2))).2 : Nat)]) ∧ w' = W) := fun v1 W h => refGet_any v1 _ W h
  have HSG : Hid (∀ v1 m W, Rd W v1 m → Calls Tryz.prog 85 #[v1] W fun e w' => e = .returned (.tuple #[.int .i64 (zag (dec64 m).1), .int .i64 ((dec64 m).2 : Nat)]) ∧ w' = W) := fun v1 m W h => refGetSigned_any v1 m W h
  have HMAY := hide (fun v s W h => refMay_any v s W h)
  have b1 := dec62_le l
  have b2 := dec62_le (l.drop (dec62 l).2)
  have b3 := dec62_le (l.drop ((dec62 l).2 + (dec62 (l.drop (dec62 l).2)).2))
  have c1 : (dec62 l).1 < 4611686018427387904 := by
    rcases dec62_cases l with h | h
    · rw [h]; decide
    · exact h.1
  simp only [List.length_drop] at b2 b3
  have hDD : decS l = if (dec62 l).2 = 0 ∨ (dec62 (l.drop (dec62 l).2)).2 = 0 ∨ (dec62 (l.drop ((dec62 l).2 + (dec62 (l.drop (dec62 l).2)).2))).2 = 0 ∨ 3 < (dec62 (l.drop (dec62 l).2)).1 ∨ 128 < (dec62 (l.drop ((dec62 l).2 + (dec62 (l.drop (dec62 l).2)).2))).1 then (zeroS, 3)
    else restS (dec62 l).1 (dec62 (l.drop (dec62 l).2)).1 (dec62 (l.drop ((dec62 l).2 + (dec62 (l.drop (dec62 l).2)).2))).1 (l.drop ((dec62 l).2 + (dec62 (l.drop (dec62 l).2)).2 + (dec62 (l.drop ((dec62 l).2 + (dec62 (l.drop (dec62 l).2)).2))).2)) := rfl
  generalize decS l = D at *
  generalize (dec62 (l.drop ((dec62 l).2 + (dec62 (l.drop (dec62 l).2)).2))).2 = k at *
  generalize (dec62 (l.drop ((dec62 l).2 + (dec62 (l.drop (dec62 l).2)).2))).1 = many at *
  generalize (dec62 (l.drop (dec62 l).2)).2 = j at *
  generalize (dec62 (l.drop (dec62 l).2)).1 = sl at *
  generalize (dec62 l).2 = i at *
  generalize (dec62 l).1 = kd at *
  have HDD := hide hDD
  have HC1 := hide (fun W (h : Rd W (.slice va l.length vc) l) => run_cut_l W _ l h .i64 i (by omega) (by omega))
  have HC2 := hide (fun W (h : Rd W (.slice va l.length vc) l) => run_cut_l W _ l h .i64 ((i : Int) + j) (by omega) (by omega))
  have HRW := hide (fun X => HR.out.below (HB0.out X) (Nat.le_refl _))
  clear hr hDD
  go_enter Tryz.func53, Tryz.ntmps53
  go_wp2_with fail
  refine (HG1.out _ (HRW.out _)).mono ?_
  rintro e W1 ⟨rfl, rfl⟩
  go_wp2_with (refine wpList_cut _ rfl _ _ _ _ rfl _ (HC1.out _ (HRW.out _)) ?_)
  intro v1 hr1
  have HR1 := hide hr1
  clear hr1
  go_wp2_with fail
  refine (HG2.out _ _ (by have h := HR1.out; simpa using h)).mono ?_
  rintro e W1 ⟨rfl, rfl⟩
  go_wp2_with (refine wpList_cut _ rfl _ _ _ _ rfl _ (HC2.out _ (HRW.out _)) ?_)
  intro v2 hr2
  have HR2 := hide hr2
  clear hr2
  have ei : ((i : Int) + (j : Int)).toNat = i + j := by omega
  rw [ei] at HR2
  go_wp2_with fail
  refine (HG3.out _ _ HR2.out).mono ?_
  rintro e W1 ⟨rfl, rfl⟩
  clear HR1 HR2 HC1 HC2 HG1 HG2 HG3 ei
  by_cases hbad : i = 0 ∨ j = 0 ∨ k = 0 ∨ 3 < sl ∨ 128 < many
  · have HN : Hid (D = (zeroS, 3)) := HDD.out.trans (if_pos hbad)
    by_cases hi : i = 0
    · subst hi
      clear hbad
      go_wp2
      refine bodyPost_ret (v := .tuple #[.agg #[.int .i64 0, .slice none 0 0, .bool false, .int .i64 0], .int .i64 3]) (by simp [results, Tryz.results53, go_sem]) rfl ?_
      rw [HN.out]
      exact DecodedS.zero 3 (HB0.out _)
    · have ei : ((i : Int) == 0) = false := beq_eq_false_iff_ne.2 (by omega)
      by_cases hj : j = 0
      · subst hj
        clear hbad
        go_wp2
        refine bodyPost_ret (v := .tuple #[.agg #[.int .i64 0, .slice none 0 0, .bool false, .int .i64 0], .int .i64 3]) (by simp [results, Tryz.results53, go_sem]) rfl ?_
        rw [HN.out]
        exact DecodedS.zero 3 (HB0.out _)
      · have ej : ((j : Int) == 0) = false := beq_eq_false_iff_ne.2 (by omega)
        by_cases hk : k = 0
        · subst hk
          clear hbad
          go_wp2
          refine bodyPost_ret (v := .tuple #[.agg #[.int .i64 0, .slice none 0 0, .bool false, .int .i64 0], .int .i64 3]) (by simp [results, Tryz.results53, go_sem]) rfl ?_
          rw [HN.out]
          exact DecodedS.zero 3 (HB0.out _)
        · have ek : ((k : Int) == 0) = false := beq_eq_false_iff_ne.2 (by omega)
          by_cases h3 : 3 < sl
          · have h3' : (3 : Int) < (sl : Int) := by omega
            clear hbad
            go_wp2
            refine bodyPost_ret (v := .tuple #[.agg #[.int .i64 0, .slice none 0 0, .bool false, .int .i64 0], .int .i64 3]) (by simp [results, Tryz.results53, go_sem]) rfl ?_
            rw [HN.out]
            exact DecodedS.zero 3 (HB0.out _)
          · have h3' : ¬ (3 : Int) < (sl : Int) := by omega
            have h4 : (128 : Int) < (many : Int) := by
              rcases hbad with h | h | h | h | h
              · exact absurd h hi
              · exact absurd h hj
              · exact absurd h hk
              · exact absurd h h3
              · omega
            clear hbad
            go_wp2
            refine bodyPost_ret (v := .tuple #[.agg #[.int .i64 0, .slice none 0 0, .bool false, .int .i64 0], .int .i64 3]) (by simp [results, Tryz.results53, go_sem]) rfl ?_
            rw [HN.out]
            exact DecodedS.zero 3 (HB0.out _)
  · have HN : Hid (D = restS kd sl many (l.drop (i + j + k))) := HDD.out.trans (if_neg hbad)
    have ei : ((i : Int) == 0) = false := beq_eq_false_iff_ne.2 (fun h => hbad (.inl (by omega)))
    have ej : ((j : Int) == 0) = false := beq_eq_false_iff_ne.2 (fun h => hbad (.inr (.inl (by omega))))
    have ek : ((k : Int) == 0) = false := beq_eq_false_iff_ne.2 (fun h => hbad (.inr (.inr (.inl (by omega)))))
    have h3 : ¬ (3 : Int) < (sl : Int) := fun h => hbad (.inr (.inr (.inr (.inl (by omega)))))
    have h4 : ¬ (128 : Int) < (many : Int) := fun h => hbad (.inr (.inr (.inr (.inr (by omega)))))
    have hT : i + j + k ≤ l.length := by omega
    clear hbad HDD
    by_cases hs0 : sl = 0
    · subst hs0
      have HMK : Hid (∀ xs, mkS kd 0 xs = ⟨kd, xs, false, 0⟩) := fun xs => by
        unfold mkS
        simp
      have HEI : Hid (I64 0) := i64_small (by omega) (by omega)
      have HKI : Hid (I64 (kd : Int)) := ⟨by omega, by omega⟩
      obtain ⟨T, hTe⟩ : ∃ T, T = i + j + k := ⟨_, rfl⟩
      rw [← hTe] at HN hT
      have hTi : (i : Int) + j + k = (T : Int) := by omega
      have HTI := hide hTi
      obtain ⟨R, hRe⟩ : ∃ R, R = l.drop T := ⟨_, rfl⟩
      rw [← hRe] at HN
      have HRE := hide hRe
      have hRl : R.length = l.length - T := by rw [hRe, List.length_drop]
      have HST : Hid (DecIn w kd 0 false R 0 ((w.alloc (.cells #[.int .i64 0, .slice none 0 0, .bool false, .int .i64 0] 26)).alloc (.cells #[.int .i64 kd, .slice none 0 0, .bool false, .int .i64 0] 26)) (.slice none 0 0) [] 0) :=
        ⟨rfl, (Below.heap_alloc _ _ _ (by simp)).trans (heap_alloc_new w _), two_new w _ _, OwnI.nil _ _, HB1.out _ _⟩
      have hsum : (i : Int) + j ≤ 9223372036854775807 := by omega
      clear hRe hTe HB1 HRW
      go_wp2
      go_loopw [11, 12] (fun ta n wr => ∃ (q u : Nat) (vk : Value) (xs : List Int), ta = .int .i64 ((T + u : Nat) : Int) ∧ n = .int .i64 (q : Int) ∧ q ≤ many ∧ T + u ≤ l.length ∧ Hid (DecIn w kd 0 false R q wr vk xs u)) (fun _ n _ => many - (intOf n).toNat)
      case atStart => exact ⟨0, 0, _, _, by rw [Nat.add_zero], rfl, Nat.zero_le _, by omega, HST⟩
      case round =>
        obtain ⟨q, u, vk, xs, rfl, rfl, hq, hTu, hat⟩ := hrel
        by_cases hlt : q < many
        · have HC := hide (run_cut_l wr _ l (HR.out.below hat.out.below (Nat.le_refl _)) .i64 ((T + u : Nat) : Int) (by omega) (by omega))
          have eT : ((T + u : Nat) : Int).toNat = T + u := by omega
          have eR : l.drop (T + u) = R.drop u := by rw [HRE.out, List.drop_drop]
          rw [eT, eR] at HC
          have HLE := hide (dec64_le (R.drop u))
          have hqi : (q : Int) < (many : Int) := by omega
          clear eT eR
          go_wp2_with (refine wpList_cut _ rfl _ _ _ _ rfl _ HC.out ?_)
          intro v5 hr5
          have HR5 := hide hr5
          clear hr5
          have HGS := hide (HSG.out _ _ _ HR5.out)
          obtain ⟨x, hx⟩ : ∃ x, x = zag (dec64 (R.drop u)).1 := ⟨_, rfl⟩
          obtain ⟨d, hd⟩ : ∃ d, d = (dec64 (R.drop u)).2 := ⟨_, rfl⟩
          rw [← hx, ← hd] at HGS
          rw [← hd] at HLE
          have HX := hide hx
          have HD := hide hd
          have hdl : T + u + d ≤ l.length := by
            have := HLE.out
            rw [List.length_drop, hRl] at this
            omega
          clear hx hd HC HR5
          go_wp2_with fail
          refine HGS.out.mono ?_
          rintro e W1 ⟨rfl, hw1⟩
          rw [hw1]
          clear HGS hw1
          obtain ⟨ak, ck, rfl⟩ := hat.out.own.shape
          have t0 := hat.out.res.cell 0
          have t1 := hat.out.res.cell 1
          have t2 := hat.out.res.cell 2
          have t3 := hat.out.res.cell 3
          have e0 := (hat.out.box.cell 1).1
          obtain ⟨r0, f0⟩ := t0
          obtain ⟨r1, f1⟩ := t1
          obtain ⟨r2, f2⟩ := t2
          obtain ⟨r3, f3⟩ := t3
          by_cases hd0 : d = 0
          · have HNN : Hid (D = (zeroS, 3)) := by
              refine hide ?_
              rw [HN.out]
              unfold restS
              rw [readL_stop hat.out.read (by rw [← HD.out]; exact hd0) hlt]
            subst hd0
            go_wp2
            refine bodyPost_ret (v := .tuple #[.agg #[.int .i64 0, .slice none 0 0, .bool false, .int .i64 0], .int .i64 3]) (by simp [results, Tryz.results53, go_sem, r0, r1, r2, r3]) rfl ?_
            rw [HNN.out]
            exact DecodedS.zero 3 (belowFour hat.out.below w.heap.size (Nat.le_refl _) _ _ _ _)
          · have ed : ((d : Int) == 0) = false := beq_eq_false_iff_ne.2 (by omega)
            have HNX := hide (fun (W1 : World) (v1 : Value) ho hb => hat.out.next (W1 := W1) (v1 := v1) HX.out HD.out hd0 ho hb)
            obtain ⟨xs', hxs'⟩ : ∃ xs', xs' = xs ++ [x] := ⟨_, rfl⟩
            rw [← hxs'] at HNX
            have HXS := hide hxs'
            clear hxs'
            have HOK := hide hat.out.own
            have hxl : xs.length ≤ 1000000 := by
              have := (readL_sound _ _ _ _ hat.out.read).1
              omega
            have hNs : w.heap.size + 1 + 1 ≤ wr.heap.size := by have := hat.out.box.lt; omega
            have HKB : Hid (∀ W, Below (w.heap.size + 1 + 1) wr W → Bx W (w.heap.size + 1) #[.int .i64 kd, .slice ak xs.length ck, .bool false, .int .i64 0]) := fun W h => (h.block _ (by omega)).trans hat.out.box
            go_wp2_with (at_builtin; refine wpList_append_int _ rfl _ _ rfl (w.heap.size + 1 + 1) _ xs rfl HOK.out _ rfl hxl hNs ?_)
            intro v6 W6 ho6 hb6
            rw [← HXS.out] at ho6
            have HNX6 := hide (HNX.out _ _ ho6 hb6)
            have hb := HKB.out _ hb6
            have g1 := (hb.cell 1).1
            have g2 := (hb.cell 1).2
            obtain ⟨a6, c6, rfl⟩ := ho6.shape
            have hsm : ((T + u : Nat) : Int) + (d : Int) ≤ 9223372036854775807 := by omega
            clear ho6 hb6 HNX HKB hb
            go_wp2
            go_roundw
            case rel => exact ⟨q + 1, u + d, _, _, by rw [← Nat.add_assoc]; go_num, by go_num, by omega, by omega, HNX6⟩
            case measure => simp [intOf]; omega
        · have hqe : q = many := by omega
          have hqi : ¬ (q : Int) < (many : Int) := by omega
          obtain ⟨ak, ck, rfl⟩ := hat.out.own.shape
          have HRL : Hid (readL many R = some (xs, u)) := by rw [← hqe]; exact hat.out.read
          obtain ⟨r0, f0⟩ := hat.out.res.cell 0
          obtain ⟨r1, f1⟩ := hat.out.res.cell 1
          obtain ⟨r2, f2⟩ := hat.out.res.cell 2
          obtain ⟨r3, f3⟩ := hat.out.res.cell 3
          have q0 := (hat.out.box.cell 0).1
          have q1 := (hat.out.box.cell 1).1
          have q2 := (hat.out.box.cell 2).1
          have q3 := (hat.out.box.cell 3).1
          clear hqe
          by_cases hend : T + u = l.length
          · have hne : (((T + u : Nat) : Int) != (l.length : Int)) = false := by rw [bne_eq_false_iff_eq]; omega
            have HDE : Hid (D = if MayS ⟨kd, xs, false, 0⟩ then ((⟨kd, xs, false, 0⟩ : St), 0) else (zeroS, 1)) := by
              refine hide ?_
              rw [HN.out]
              unfold restS
              rw [HRL.out]
              simp only
              rw [if_neg (by rw [hRl]; omega), HMK.out]
            have HIX := hide (readL_sound _ _ _ _ HRL.out).2.2.2
            have HRX := hide (hat.out.own.rd HIX.out)
            have HM2 : Hid (Calls Tryz.prog 55 #[.agg #[.int .i64 kd, .slice ak xs.length ck, .bool false, .int .i64 0]] wr fun e w' => e = .returned (.bool (decide (MayS ⟨kd, xs, false, 0⟩))) ∧ Below wr.heap.size wr w') := HMAY.out _ ⟨kd, xs, false, 0⟩ _ ⟨_, rfl, HRX.out, HKI.out, HEI.out⟩
            clear hend
            go_wp2_with fail
            refine HM2.out.mono ?_
            rintro e W7 ⟨rfl, hb7⟩
            have HRES := hide (hat.out.res.below hb7 (Nat.le_refl _))
            have HBOX := hide (hat.out.box.below hb7 (Nat.le_refl _))
            have HOW := hide (hat.out.own.below hb7 (Nat.le_refl _))
            have HB7 := hide (hat.out.below.trans (hb7.mono hat.out.below.size))
            clear hb7 r0 r1 r2 r3 f0 f1 f2 f3 q0 q1 q2 q3
            obtain ⟨r0, f0⟩ := HRES.out.cell 0
            obtain ⟨r1, f1⟩ := HRES.out.cell 1
            obtain ⟨r2, f2⟩ := HRES.out.cell 2
            obtain ⟨r3, f3⟩ := HRES.out.cell 3
            have q0 := (HBOX.out.cell 0).1
            have q1 := (HBOX.out.cell 1).1
            have q2 := (HBOX.out.cell 2).1
            have q3 := (HBOX.out.cell 3).1
            by_cases hm : MayS ⟨kd, xs, false, 0⟩
            · rw [decide_eq_true hm]
              have HF : Hid (D = ((⟨kd, xs, false, 0⟩ : St), 0)) := HDE.out.trans (if_pos hm)
              clear hm
              go_wp2
              refine bodyPost_ret (v := .tuple #[.agg #[.int .i64 kd, .slice ak xs.length ck, .bool false, .int .i64 0], .int .i64 0]) (by simp [results, Tryz.results53, go_sem, r0, r1, r2, r3]) rfl ?_
              rw [HF.out]
              refine ⟨_, rfl, (HOW.out.four w.heap.size (by omega) _ _ _ _).rd HIX.out, HKI.out, HEI.out, fun b hb => ?_, belowFour HB7.out w.heap.size (Nat.le_refl _) _ _ _ _⟩
              have := HOW.out.fresh b hb
              omega
            · rw [decide_eq_false hm]
              have HF : Hid (D = (zeroS, 1)) := HDE.out.trans (if_neg hm)
              clear hm
              go_wp2
              refine bodyPost_ret (v := .tuple #[.agg #[.int .i64 0, .slice none 0 0, .bool false, .int .i64 0], .int .i64 1]) (by simp [results, Tryz.results53, go_sem, r0, r1, r2, r3]) rfl ?_
              rw [HF.out]
              exact DecodedS.zero 1 (belowFour HB7.out w.heap.size (Nat.le_refl _) _ _ _ _)
          · have hne : (((T + u : Nat) : Int) != (l.length : Int)) = true := by rw [bne_iff_ne]; omega
            have HF : Hid (D = (zeroS, 3)) := by
              refine hide ?_
              rw [HN.out]
              unfold restS
              rw [HRL.out]
              simp only
              rw [if_pos (by rw [hRl]; omega)]
            clear hend
            go_wp2
            refine bodyPost_ret (v := .tuple #[.agg #[.int .i64 0, .slice none 0 0, .bool false, .int .i64 0], .int .i64 3]) (by simp [results, Tryz.results53, go_sem, r0, r1, r2, r3]) rfl ?_
            rw [HF.out]
            exact DecodedS.zero 3 (belowFour hat.out.below w.heap.size (Nat.le_refl _) _ _ _ _)
    · have hs1 : (0 : Int) < (sl : Int) := by omega
      have hs2 : 0 < sl := by omega
      have hs3 : decide (0 < sl) = true := decide_eq_true hs2
      have HMK : Hid (∀ xs, mkS kd sl xs = ⟨kd, xs, true, (sl : Int) - 1⟩) := fun xs => by
        unfold mkS
        simp [show 0 < sl by omega]
      have HEI : Hid (I64 ((sl : Int) - 1)) := i64_small (by omega) (by omega)
      have HKI : Hid (I64 (kd : Int)) := ⟨by omega, by omega⟩
      obtain ⟨T, hTe⟩ : ∃ T, T = i + j + k := ⟨_, rfl⟩
      rw [← hTe] at HN hT
      have hTi : (i : Int) + j + k = (T : Int) := by omega
      have HTI := hide hTi
      obtain ⟨R, hRe⟩ : ∃ R, R = l.drop T := ⟨_, rfl⟩
      rw [← hRe] at HN
      have HRE := hide hRe
      have hRl : R.length = l.length - T := by rw [hRe, List.length_drop]
      have HST : Hid (DecIn w kd ((sl : Int) - 1) true R 0 ((w.alloc (.cells #[.int .i64 0, .slice none 0 0, .bool false, .int .i64 0] 26)).alloc (.cells #[.int .i64 kd, .slice none 0 0, .bool true, .int .i64 ((sl : Int) - 1)] 26)) (.slice none 0 0) [] 0) :=
        ⟨rfl, (Below.heap_alloc _ _ _ (by simp)).trans (heap_alloc_new w _), two_new w _ _, OwnI.nil _ _, HB1.out _ _⟩
      have hsum : (i : Int) + j ≤ 9223372036854775807 := by omega
      clear hRe hTe HB1 HRW
      go_wp2
      go_loopw [11, 12] (fun ta n wr => ∃ (q u : Nat) (vk : Value) (xs : List Int), ta = .int .i64 ((T + u : Nat) : Int) ∧ n = .int .i64 (q : Int) ∧ q ≤ many ∧ T + u ≤ l.length ∧ Hid (DecIn w kd ((sl : Int) - 1) true R q wr vk xs u)) (fun _ n _ => many - (intOf n).toNat)
      case atStart => exact ⟨0, 0, _, _, by rw [Nat.add_zero], rfl, Nat.zero_le _, by omega, HST⟩
      case round =>
        obtain ⟨q, u, vk, xs, rfl, rfl, hq, hTu, hat⟩ := hrel
        by_cases hlt : q < many
        · have HC := hide (run_cut_l wr _ l (HR.out.below hat.out.below (Nat.le_refl _)) .i64 ((T + u : Nat) : Int) (by omega) (by omega))
          have eT : ((T + u : Nat) : Int).toNat = T + u := by omega
          have eR : l.drop (T + u) = R.drop u := by rw [HRE.out, List.drop_drop]
          rw [eT, eR] at HC
          have HLE := hide (dec64_le (R.drop u))
          have hqi : (q : Int) < (many : Int) := by omega
          clear eT eR
          go_wp2_with (refine wpList_cut _ rfl _ _ _ _ rfl _ HC.out ?_)
          intro v5 hr5
          have HR5 := hide hr5
          clear hr5
          have HGS := hide (HSG.out _ _ _ HR5.out)
          obtain ⟨x, hx⟩ : ∃ x, x = zag (dec64 (R.drop u)).1 := ⟨_, rfl⟩
          obtain ⟨d, hd⟩ : ∃ d, d = (dec64 (R.drop u)).2 := ⟨_, rfl⟩
          rw [← hx, ← hd] at HGS
          rw [← hd] at HLE
          have HX := hide hx
          have HD := hide hd
          have hdl : T + u + d ≤ l.length := by
            have := HLE.out
            rw [List.length_drop, hRl] at this
            omega
          clear hx hd HC HR5
          go_wp2_with fail
          refine HGS.out.mono ?_
          rintro e W1 ⟨rfl, hw1⟩
          rw [hw1]
          clear HGS hw1
          obtain ⟨ak, ck, rfl⟩ := hat.out.own.shape
          have t0 := hat.out.res.cell 0
          have t1 := hat.out.res.cell 1
          have t2 := hat.out.res.cell 2
          have t3 := hat.out.res.cell 3
          have e0 := (hat.out.box.cell 1).1
          obtain ⟨r0, f0⟩ := t0
          obtain ⟨r1, f1⟩ := t1
          obtain ⟨r2, f2⟩ := t2
          obtain ⟨r3, f3⟩ := t3
          by_cases hd0 : d = 0
          · have HNN : Hid (D = (zeroS, 3)) := by
              refine hide ?_
              rw [HN.out]
              unfold restS
              rw [readL_stop hat.out.read (by rw [← HD.out]; exact hd0) hlt]
            subst hd0
            go_wp2
            refine bodyPost_ret (v := .tuple #[.agg #[.int .i64 0, .slice none 0 0, .bool false, .int .i64 0], .int .i64 3]) (by simp [results, Tryz.results53, go_sem, r0, r1, r2, r3]) rfl ?_
            rw [HNN.out]
            exact DecodedS.zero 3 (belowFour hat.out.below w.heap.size (Nat.le_refl _) _ _ _ _)
          · have ed : ((d : Int) == 0) = false := beq_eq_false_iff_ne.2 (by omega)
            have HNX := hide (fun (W1 : World) (v1 : Value) ho hb => hat.out.next (W1 := W1) (v1 := v1) HX.out HD.out hd0 ho hb)
            obtain ⟨xs', hxs'⟩ : ∃ xs', xs' = xs ++ [x] := ⟨_, rfl⟩
            rw [← hxs'] at HNX
            have HXS := hide hxs'
            clear hxs'
            have HOK := hide hat.out.own
            have hxl : xs.length ≤ 1000000 := by
              have := (readL_sound _ _ _ _ hat.out.read).1
              omega
            have hNs : w.heap.size + 1 + 1 ≤ wr.heap.size := by have := hat.out.box.lt; omega
            have HKB : Hid (∀ W, Below (w.heap.size + 1 + 1) wr W → Bx W (w.heap.size + 1) #[.int .i64 kd, .slice ak xs.length ck, .bool true, .int .i64 ((sl : Int) - 1)]) := fun W h => (h.block _ (by omega)).trans hat.out.box
            go_wp2_with (at_builtin; refine wpList_append_int _ rfl _ _ rfl (w.heap.size + 1 + 1) _ xs rfl HOK.out _ rfl hxl hNs ?_)
            intro v6 W6 ho6 hb6
            rw [← HXS.out] at ho6
            have HNX6 := hide (HNX.out _ _ ho6 hb6)
            have hb := HKB.out _ hb6
            have g1 := (hb.cell 1).1
            have g2 := (hb.cell 1).2
            obtain ⟨a6, c6, rfl⟩ := ho6.shape
            have hsm : ((T + u : Nat) : Int) + (d : Int) ≤ 9223372036854775807 := by omega
            clear ho6 hb6 HNX HKB hb
            go_wp2
            go_roundw
            case rel => exact ⟨q + 1, u + d, _, _, by rw [← Nat.add_assoc]; go_num, by go_num, by omega, by omega, HNX6⟩
            case measure => simp [intOf]; omega
        · have hqe : q = many := by omega
          have hqi : ¬ (q : Int) < (many : Int) := by omega
          obtain ⟨ak, ck, rfl⟩ := hat.out.own.shape
          have HRL : Hid (readL many R = some (xs, u)) := by rw [← hqe]; exact hat.out.read
          obtain ⟨r0, f0⟩ := hat.out.res.cell 0
          obtain ⟨r1, f1⟩ := hat.out.res.cell 1
          obtain ⟨r2, f2⟩ := hat.out.res.cell 2
          obtain ⟨r3, f3⟩ := hat.out.res.cell 3
          have q0 := (hat.out.box.cell 0).1
          have q1 := (hat.out.box.cell 1).1
          have q2 := (hat.out.box.cell 2).1
          have q3 := (hat.out.box.cell 3).1
          clear hqe
          by_cases hend : T + u = l.length
          · have hne : (((T + u : Nat) : Int) != (l.length : Int)) = false := by rw [bne_eq_false_iff_eq]; omega
            have HDE : Hid (D = if MayS ⟨kd, xs, true, (sl : Int) - 1⟩ then ((⟨kd, xs, true, (sl : Int) - 1⟩ : St), 0) else (zeroS, 1)) := by
              refine hide ?_
              rw [HN.out]
              unfold restS
              rw [HRL.out]
              simp only
              rw [if_neg (by rw [hRl]; omega), HMK.out]
            have HIX := hide (readL_sound _ _ _ _ HRL.out).2.2.2
            have HRX := hide (hat.out.own.rd HIX.out)
            have HM2 : Hid (Calls Tryz.prog 55 #[.agg #[.int .i64 kd, .slice ak xs.length ck, .bool true, .int .i64 ((sl : Int) - 1)]] wr fun e w' => e = .returned (.bool (decide (MayS ⟨kd, xs, true, (sl : Int) - 1⟩))) ∧ Below wr.heap.size wr w') := HMAY.out _ ⟨kd, xs, true, (sl : Int) - 1⟩ _ ⟨_, rfl, HRX.out, HKI.out, HEI.out⟩
            clear hend
            go_wp2_with fail
            refine HM2.out.mono ?_
            rintro e W7 ⟨rfl, hb7⟩
            have HRES := hide (hat.out.res.below hb7 (Nat.le_refl _))
            have HBOX := hide (hat.out.box.below hb7 (Nat.le_refl _))
            have HOW := hide (hat.out.own.below hb7 (Nat.le_refl _))
            have HB7 := hide (hat.out.below.trans (hb7.mono hat.out.below.size))
            clear hb7 r0 r1 r2 r3 f0 f1 f2 f3 q0 q1 q2 q3
            obtain ⟨r0, f0⟩ := HRES.out.cell 0
            obtain ⟨r1, f1⟩ := HRES.out.cell 1
            obtain ⟨r2, f2⟩ := HRES.out.cell 2
            obtain ⟨r3, f3⟩ := HRES.out.cell 3
            have q0 := (HBOX.out.cell 0).1
            have q1 := (HBOX.out.cell 1).1
            have q2 := (HBOX.out.cell 2).1
            have q3 := (HBOX.out.cell 3).1
            by_cases hm : MayS ⟨kd, xs, true, (sl : Int) - 1⟩
            · rw [decide_eq_true hm]
              have HF : Hid (D = ((⟨kd, xs, true, (sl : Int) - 1⟩ : St), 0)) := HDE.out.trans (if_pos hm)
              clear hm
              go_wp2
              refine bodyPost_ret (v := .tuple #[.agg #[.int .i64 kd, .slice ak xs.length ck, .bool true, .int .i64 ((sl : Int) - 1)], .int .i64 0]) (by simp [results, Tryz.results53, go_sem, r0, r1, r2, r3]) rfl ?_
              rw [HF.out]
              refine ⟨_, rfl, (HOW.out.four w.heap.size (by omega) _ _ _ _).rd HIX.out, HKI.out, HEI.out, fun b hb => ?_, belowFour HB7.out w.heap.size (Nat.le_refl _) _ _ _ _⟩
              have := HOW.out.fresh b hb
              omega
            · rw [decide_eq_false hm]
              have HF : Hid (D = (zeroS, 1)) := HDE.out.trans (if_neg hm)
              clear hm
              go_wp2
              refine bodyPost_ret (v := .tuple #[.agg #[.int .i64 0, .slice none 0 0, .bool false, .int .i64 0], .int .i64 1]) (by simp [results, Tryz.results53, go_sem, r0, r1, r2, r3]) rfl ?_
              rw [HF.out]
              exact DecodedS.zero 1 (belowFour HB7.out w.heap.size (Nat.le_refl _) _ _ _ _)
          · have hne : (((T + u : Nat) : Int) != (l.length : Int)) = true := by rw [bne_iff_ne]; omega
            have HF : Hid (D = (zeroS, 3)) := by
              refine hide ?_
              rw [HN.out]
              unfold restS
              rw [HRL.out]
              simp only
              rw [if_pos (by rw [hRl]; omega)]
            clear hend
            go_wp2
            refine bodyPost_ret (v := .tuple #[.agg #[.int .i64 0, .slice none 0 0, .bool false, .int .i64 0], .int .i64 3]) (by simp [results, Tryz.results53, go_sem, r0, r1, r2, r3]) rfl ?_
            rw [HF.out]
            exact DecodedS.zero 3 (belowFour hat.out.below w.heap.size (Nat.le_refl _) _ _ _ _)

end Go.Proofs.YtanmjihiceibbaaGreat
