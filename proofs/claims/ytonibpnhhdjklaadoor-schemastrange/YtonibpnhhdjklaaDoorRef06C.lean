/- Contract of ferrymanref06: Encode. -/
import Derived.Test.YtonibpnhhdjklaaDoorRef06B
namespace Go.Proofs.YtonibpnhhdjklaaDoor
open Go.RowKit

def encErr (v : Int) (r : Rec) : Int := if 1 ≤ v ∧ v ≤ 3 then (if FitsR r then 0 else 1) else 6

def encL (v : Int) (r : Rec) : List UInt8 := if 1 ≤ v ∧ v ≤ 3 then (if FitsR r then encR v r else []) else []

/-- What is encoded: the bytes, or none and the error. -/
def EncodedR (w : World) (v : Int) (r : Rec) (e : Ending) (w' : World) : Prop :=
  ∃ v', e = .returned (.tuple #[v', .int .i64 (encErr v r)]) ∧ Own w' w.heap.size v' (encL v r) ∧ Below w.heap.size w w'

/-- What stands there ahead of field k. -/
def partR (v : Int) (r : Rec) (k : Nat) : List UInt8 := Lib.uvarint v.toNat ++ encFs r ((fieldsV v).filter (fun f => decide (f < k)))

theorem partR_one {v : Int} (h1 : 1 ≤ v) (h3 : v ≤ 3) (r : Rec) : partR v r 1 = Lib.uvarint v.toNat := by
  have hv : v = 1 ∨ v = 2 ∨ v = 3 := by omega
  rcases hv with rfl | rfl | rfl <;> exact List.append_nil _

theorem partR_six {v : Int} (h1 : 1 ≤ v) (h3 : v ≤ 3) (r : Rec) : partR v r 6 = encR v r := by
  have hv : v = 1 ∨ v = 2 ∨ v = 3 := by omega
  rcases hv with rfl | rfl | rfl <;> rfl

theorem encFs_snoc (r : Rec) (f : Nat) : ∀ fs : List Nat, encFs r (fs ++ [f]) = encFs r fs ++ (Lib.uvarint f ++ bytesF r f)
  | [] => by simp [encFs]
  | g :: gs => by rw [List.cons_append, encFs, encFs_snoc r f gs, encFs]; simp [List.append_assoc]

theorem fields_snoc {v : Int} (h1 : 1 ≤ v) (h3 : v ≤ 3) {k : Nat} (hk1 : 1 ≤ k) (hk5 : k ≤ 5) : (fieldsV v).filter (fun f => decide (f < k + 1)) = (fieldsV v).filter (fun f => decide (f < k)) ++ (if hasV v.toNat k then [k] else []) := by
  have hv : v = 1 ∨ v = 2 ∨ v = 3 := by omega
  have hk : k = 1 ∨ k = 2 ∨ k = 3 ∨ k = 4 ∨ k = 5 := by omega
  rcases hv with rfl | rfl | rfl <;> rcases hk with rfl | rfl | rfl | rfl | rfl <;> decide

theorem partR_has {v : Int} (h1 : 1 ≤ v) (h3 : v ≤ 3) (r : Rec) {k : Nat} (hk1 : 1 ≤ k) (hk5 : k ≤ 5) (hh : hasV v.toNat k) : partR v r (k + 1) = (partR v r k ++ Lib.uvarint k) ++ bytesF r k := by
  unfold partR
  rw [fields_snoc h1 h3 hk1 hk5, if_pos hh, encFs_snoc]
  simp only [List.append_assoc]

theorem partR_not {v : Int} (h1 : 1 ≤ v) (h3 : v ≤ 3) (r : Rec) {k : Nat} (hk1 : 1 ≤ k) (hk5 : k ≤ 5) (hh : ¬ hasV v.toNat k) : partR v r (k + 1) = partR v r k := by
  unfold partR
  rw [fields_snoc h1 h3 hk1 hk5, if_neg hh, List.append_nil]

theorem bytesF_length {r : Rec} (h : FitsR r) (f : Nat) : (bytesF r f).length ≤ 30 := by
  have hr := fitsR_resp h
  obtain ⟨h1, h2, h3, h4, h5, h6, h7, h8, h9⟩ := h
  have u1 := uv10' (n := r.idx.toNat) (by omega)
  have u2 := uv10' (n := r.proc.toNat) (by omega)
  have u3 := uv10' (n := r.seq.toNat) (by omega)
  have u4 := uv10 hr
  have u5 := uv10 (fits_i64 h1).1
  have u6 := uv10 (fits_i64 h1).2
  have u7 := uv10' (n := r.op.code.toNat) (by have := h1.1; have := h1.2.1; omega)
  unfold bytesF putOpL
  repeat' split
  all_goals
    try simp only [List.length_append]
    omega

theorem encFs_length {r : Rec} (h : FitsR r) : ∀ fs : List Nat, (∀ f ∈ fs, f ≤ 5) → (encFs r fs).length ≤ 40 * fs.length
  | [], _ => by simp [encFs]
  | f :: fs, hf => by
    have ih := encFs_length h fs (fun g hg => hf g (by simp [hg]))
    have h1 := bytesF_length h f
    have h2 := uv10' (n := f) (by have := hf f (by simp); omega)
    rw [encFs, List.length_append, List.length_append, List.length_cons]
    omega

theorem fields_five (v : Int) : (fieldsV v).length ≤ 5 ∧ ∀ f ∈ fieldsV v, f ≤ 5 := by
  unfold fieldsV
  repeat' split
  all_goals
    refine ⟨by simp, ?_⟩
    intro f hf
    simp at hf
    omega

theorem partR_length {v : Int} (h1 : 1 ≤ v) (h3 : v ≤ 3) {r : Rec} (h : FitsR r) (k : Nat) : (partR v r k).length ≤ 300 := by
  have h4 := uv10' (n := v.toNat) (by omega)
  have h5 := fields_five v
  have h6 := encFs_length h ((fieldsV v).filter (fun f => decide (f < k))) (fun f hf => h5.2 f (List.mem_filter.1 hf).1)
  have h7 := List.length_filter_le (fun f => decide (f < k)) (fieldsV v)
  unfold partR
  rw [List.length_append]
  omega

set_option maxRecDepth 100000 in
set_option maxHeartbeats 2000000 in
theorem refEncodeR_any (v : Int) (r : Rec) (w : World) :
    Calls Tryd.prog 11 #[.int .i64 v, recV r] w fun e w' => EncodedR w v r e w' := by
  have HB0 : Hid (∀ X, Below w.heap.size w (w.alloc X)) := fun X => (Below.refl _ _).alloc (Nat.le_refl _) X
  have X1 : Hid (∀ cs, Br (w.alloc (.cells cs 25)) w.heap.size cs) := fun cs => heap_alloc_new w _
  have HF := hide (fun W => refFitsR_any r W)
  unfold EncodedR encErr encL
  by_cases hv : 1 ≤ v ∧ v ≤ 3
  case neg =>
    rw [if_neg hv, if_neg hv]
    obtain ⟨idx, proc, seq, ⟨code, a, b⟩, resp⟩ := r
    show Calls Tryd.prog _ #[_, .agg #[.int .i64 idx, .int .i64 proc, .int .i64 seq, .int .i64 code, .int .i64 a, .int .i64 b, .int .i64 resp]] w _
    by_cases h1 : 1 ≤ v
    · have h3 : ¬ v ≤ 3 := fun h => hv ⟨h1, h⟩
      clear hv
      go_enter Tryd.func11, Tryd.ntmps11
      go_wp2
      go_ret2
      exact ⟨_, rfl, Own.nil _ _, HB0.out _⟩
    · clear hv
      go_enter Tryd.func11, Tryd.ntmps11
      go_wp2
      go_ret2
      exact ⟨_, rfl, Own.nil _ _, HB0.out _⟩
  rw [if_pos hv, if_pos hv]
  obtain ⟨h1, h3⟩ := hv
  by_cases hf : FitsR r
  case neg =>
    rw [if_neg hf, if_neg hf]
    rw [decide_eq_false hf] at HF
    clear hf
    obtain ⟨idx, proc, seq, ⟨code, a, b⟩, resp⟩ := r
    show Calls Tryd.prog _ #[_, .agg #[.int .i64 idx, .int .i64 proc, .int .i64 seq, .int .i64 code, .int .i64 a, .int .i64 b, .int .i64 resp]] w _
    go_enter Tryd.func11, Tryd.ntmps11
    go_wp2_with fail
    refine (HF.out _).mono ?_
    rintro e W1 ⟨rfl, hb1⟩
    have HB1 := hide ((HB0.out _).trans (hb1.mono (HB0.out _).size))
    clear hb1
    go_wp2
    go_ret2
    exact ⟨_, rfl, Own.nil _ _, HB1.out⟩
  rw [if_pos hf, if_pos hf]
  rw [decide_eq_true hf] at HF
  have HR0 := hide (fitsR_resp hf)
  have HL := hide (fun k => partR_length h1 h3 hf k)
  have HP1 := hide (partR_one h1 h3 r)
  have HP6 := hide (partR_six h1 h3 r)
  have HPH := hide (fun k (a1 : 1 ≤ k) (a5 : k ≤ 5) hh => partR_has h1 h3 r a1 a5 hh)
  have HPN := hide (fun k (a1 : 1 ≤ k) (a5 : k ≤ 5) hh => partR_not h1 h3 r a1 a5 hh)
  have HH : Hid (∀ (k : Nat) W, Calls Tryd.prog 22 #[.int .i64 v, .int .i64 (k : Int)] W fun e w' => e = .returned (.bool (decide (hasV v.toNat k))) ∧ w' = W) := fun k W => by
    have h := refHas_any v.toNat k W
    rw [Int.toNat_of_nonneg (by omega)] at h
    exact h
  have HPU : Hid (∀ v1 l n W, Rd W v1 l → l.length ≤ 1000 → 0 ≤ n → n < 4611686018427387904 → Calls Tryd.prog 21 #[v1, .int .i64 n] W fun e w' => ∃ v', e = .returned v' ∧ Own w' W.heap.size v' (l ++ Lib.uvarint n.toNat) ∧ Below W.heap.size W w') := fun v1 l n W h hl n0 n1 => by
    have h := refPut_any v1 l n W h (by omega)
    rw [putOf_small n0 n1] at h
    exact h
  have HPS : Hid (∀ v1 l W, Rd W v1 l → l.length ≤ 1000 → Calls Tryd.prog 24 #[v1, .int .i64 r.resp] W fun e w' => ∃ v', e = .returned v' ∧ Own w' W.heap.size v' (l ++ Lib.uvarint (Lib.zigzag r.resp)) ∧ Below W.heap.size W w') := fun v1 l W h hl => refPutSigned_any v1 l r.resp W h (by omega) HR0.out.1 HR0.out.2
  have HPO : Hid (∀ v1 l W, Rd W v1 l → l.length ≤ 1000 → Calls Tryd.prog 23 #[v1, .agg #[.int .i64 r.op.code, .int .i64 r.op.a, .int .i64 r.op.b]] W fun e w' => ∃ v', e = .returned (.tuple #[v', .int .i64 0]) ∧ Own w' W.heap.size v' (l ++ putOpL r.op) ∧ Below W.heap.size W w') := fun v1 l W h hl => by
    have h := refPutOp_any v1 l r.op W h (by omega)
    unfold Putted at h
    rw [if_pos hf.1, if_pos hf.1] at h
    exact h
  have hfb := hf
  obtain ⟨-, i0, i1, s0, s1, c0, c1, -, -⟩ := hfb
  have HI := hide (And.intro i0 i1)
  have HSQ := hide (And.intro s0 s1)
  have HPR := hide (And.intro c0 (show r.proc < 4611686018427387904 by omega))
  clear hf HR0 i0 i1 s0 s1 c0 c1
  have HBF : Hid (bytesF r 1 = Lib.uvarint r.idx.toNat ∧ bytesF r 2 = Lib.uvarint r.proc.toNat ∧ bytesF r 3 = Lib.uvarint r.seq.toNat ∧ bytesF r 4 = putOpL r.op ∧ bytesF r 5 = Lib.uvarint (Lib.zigzag r.resp)) := ⟨rfl, rfl, rfl, rfl, rfl⟩
  generalize bytesF r = BF at *
  generalize partR v r = PR at *
  generalize encR v r = EN at *
  obtain ⟨idx, proc, seq, ⟨code, a, b⟩, resp⟩ := r
  simp only at *
  show Calls Tryd.prog _ #[_, .agg #[.int .i64 idx, .int .i64 proc, .int .i64 seq, .int .i64 code, .int .i64 a, .int .i64 b, .int .i64 resp]] w _
  go_enter Tryd.func11, Tryd.ntmps11
  go_wp2_with fail
  refine (HF.out _).mono ?_
  rintro e W1 ⟨rfl, hb1⟩
  have HX1 := hide ((X1.out _).below hb1 (Nat.le_refl _))
  have HB1 := hide ((HB0.out _).trans (hb1.mono (HB0.out _).size))
  clear hb1 HF X1
  go_wp2_with fail
  refine (HPU.out _ [] _ _ (Rd.nil _) (by simp) (by omega) (by omega)).mono ?_
  rintro e W2 ⟨v2, rfl, ho2, hb2⟩
  have HX2 := hide (HX1.out.below hb2 (Nat.le_refl _))
  have HB2 := hide (HB1.out.trans (hb2.mono HB1.out.size))
  have HO2 : Hid (Own W2 w.heap.size v2 (PR 1)) := by
    refine hide ?_
    rw [HP1.out]
    exact ho2.mono HB1.out.size
  clear hb2 ho2 HX1 HB1
  go_wp2
  go_loopw [7, 8] (fun vo i wr => ∃ k : Nat, i = .int .i64 k ∧ 1 ≤ k ∧ k ≤ 6 ∧ Hid (Own wr w.heap.size vo (PR k)) ∧ Hid (Br wr w.heap.size #[.int .i64 idx, .int .i64 proc, .int .i64 seq, .int .i64 code, .int .i64 a, .int .i64 b, .int .i64 resp]) ∧ Hid (Below w.heap.size w wr)) (fun _ i _ => 6 - (intOf i).toNat)
  case atStart => exact ⟨1, rfl, by omega, by omega, HO2, HX2, HB2⟩
  case round =>
    obtain ⟨k, rfl, hk1, hk6, hown, hbx, hbel⟩ := hrel
    by_cases hk5 : k ≤ 5
    case neg =>
      have e6 : k = 6 := by omega
      subst e6
      rw [HP6.out] at hown
      clear hk5 hk1 hk6
      go_wp2
      go_ret2
      exact ⟨_, rfl, hown.out, hbel.out⟩
    by_cases hh : hasV v.toNat k
    case neg =>
      have HHk : Hid (∀ W, Calls Tryd.prog 22 #[.int .i64 v, .int .i64 (k : Int)] W fun e w' => e = .returned (.bool false) ∧ w' = W) := fun W => by
        have h := HH.out k W
        rw [decide_eq_false hh] at h
        exact h
      have HN := hide (HPN.out k hk1 hk5 hh)
      clear hh
      go_wp2_with fail
      refine (HHk.out _).mono ?_
      rintro e W3 ⟨rfl, rfl⟩
      go_wp2
      go_roundw
      case rel => exact ⟨k + 1, by go_num, by omega, by omega, by rw [HN.out]; exact hown, hbx, hbel⟩
      case measure => simp [intOf]; omega
    have HHk : Hid (∀ W, Calls Tryd.prog 22 #[.int .i64 v, .int .i64 (k : Int)] W fun e w' => e = .returned (.bool true) ∧ w' = W) := fun W => by
      have h := HH.out k W
      rw [decide_eq_true hh] at h
      exact h
    have HN := hide (HPH.out k hk1 hk5 hh)
    have HLk := hide (HL.out k)
    have HLl : Hid ((PR k ++ Lib.uvarint k).length ≤ 1000) := by
      refine hide ?_
      have h1 := HLk.out
      have h2 := uv10' (n := k) (by omega)
      rw [List.length_append]
      omega
    have HPk : Hid (∀ v1 W, Rd W v1 (PR k) → Calls Tryd.prog 21 #[v1, .int .i64 (k : Int)] W fun e w' => ∃ v', e = .returned v' ∧ Own w' W.heap.size v' (PR k ++ Lib.uvarint k) ∧ Below W.heap.size W w') := fun v1 W h => by
      have h := HPU.out v1 (PR k) (k : Int) W h (by have := HLk.out; omega) (by omega) (by omega)
      rw [Int.toNat_natCast] at h
      exact h
    clear hh HH HL HP1 HP6 HPH HPN
    have hc : k = 1 ∨ k = 2 ∨ k = 3 ∨ k = 4 ∨ k = 5 := by omega
    clear hk1 hk5 hk6
    generalize PR k ++ Lib.uvarint k = PK at *
    rcases hc with rfl | rfl | rfl | rfl | rfl
    · rw [HBF.out.1] at HN
      go_wp2_with fail
      refine (HHk.out _).mono ?_
      rintro e W3 ⟨rfl, rfl⟩
      go_wp2_with fail
      refine (HPk.out _ _ hown.out.rd).mono ?_
      rintro e W4 ⟨v4, rfl, ho4, hb4⟩
      have HX4 := hide (hbx.out.below hb4 (Nat.le_refl _))
      have HB4 := hide (hbel.out.trans (hb4.mono hbel.out.size))
      have HO4 := hide ho4
      clear hb4 ho4 hbx hbel hown HHk HPk
      obtain ⟨q0, -⟩ := HX4.out.cell 0
      go_wp2_with fail
      refine (HPU.out _ _ _ _ HO4.out.rd HLl.out HI.out.1 HI.out.2).mono ?_
      rintro e W5 ⟨v5, rfl, ho5, hb5⟩
      rw [← HN.out] at ho5
      have HX5 := hide (HX4.out.below hb5 (Nat.le_refl _))
      have HO5 := hide (ho5.mono HB4.out.size)
      have HB5 := hide (HB4.out.trans (hb5.mono HB4.out.size))
      clear hb5 ho5 HX4 HB4 HO4
      go_wp2
      go_roundw
      case rel => exact ⟨2, by go_num, by omega, by omega, HO5, HX5, HB5⟩
      case measure => simp [intOf]
    · rw [HBF.out.2.1] at HN
      go_wp2_with fail
      refine (HHk.out _).mono ?_
      rintro e W3 ⟨rfl, rfl⟩
      go_wp2_with fail
      refine (HPk.out _ _ hown.out.rd).mono ?_
      rintro e W4 ⟨v4, rfl, ho4, hb4⟩
      have HX4 := hide (hbx.out.below hb4 (Nat.le_refl _))
      have HB4 := hide (hbel.out.trans (hb4.mono hbel.out.size))
      have HO4 := hide ho4
      clear hb4 ho4 hbx hbel hown HHk HPk
      obtain ⟨q1, -⟩ := HX4.out.cell 1
      go_wp2_with fail
      refine (HPU.out _ _ _ _ HO4.out.rd HLl.out HPR.out.1 HPR.out.2).mono ?_
      rintro e W5 ⟨v5, rfl, ho5, hb5⟩
      rw [← HN.out] at ho5
      have HX5 := hide (HX4.out.below hb5 (Nat.le_refl _))
      have HO5 := hide (ho5.mono HB4.out.size)
      have HB5 := hide (HB4.out.trans (hb5.mono HB4.out.size))
      clear hb5 ho5 HX4 HB4 HO4
      go_wp2
      go_roundw
      case rel => exact ⟨3, by go_num, by omega, by omega, HO5, HX5, HB5⟩
      case measure => simp [intOf]
    · rw [HBF.out.2.2.1] at HN
      go_wp2_with fail
      refine (HHk.out _).mono ?_
      rintro e W3 ⟨rfl, rfl⟩
      go_wp2_with fail
      refine (HPk.out _ _ hown.out.rd).mono ?_
      rintro e W4 ⟨v4, rfl, ho4, hb4⟩
      have HX4 := hide (hbx.out.below hb4 (Nat.le_refl _))
      have HB4 := hide (hbel.out.trans (hb4.mono hbel.out.size))
      have HO4 := hide ho4
      clear hb4 ho4 hbx hbel hown HHk HPk
      obtain ⟨q2, -⟩ := HX4.out.cell 2
      go_wp2_with fail
      refine (HPU.out _ _ _ _ HO4.out.rd HLl.out HSQ.out.1 HSQ.out.2).mono ?_
      rintro e W5 ⟨v5, rfl, ho5, hb5⟩
      rw [← HN.out] at ho5
      have HX5 := hide (HX4.out.below hb5 (Nat.le_refl _))
      have HO5 := hide (ho5.mono HB4.out.size)
      have HB5 := hide (HB4.out.trans (hb5.mono HB4.out.size))
      clear hb5 ho5 HX4 HB4 HO4
      go_wp2
      go_roundw
      case rel => exact ⟨4, by go_num, by omega, by omega, HO5, HX5, HB5⟩
      case measure => simp [intOf]
    · rw [HBF.out.2.2.2.1] at HN
      go_wp2_with fail
      refine (HHk.out _).mono ?_
      rintro e W3 ⟨rfl, rfl⟩
      go_wp2_with fail
      refine (HPk.out _ _ hown.out.rd).mono ?_
      rintro e W4 ⟨v4, rfl, ho4, hb4⟩
      have HX4 := hide (hbx.out.below hb4 (Nat.le_refl _))
      have HB4 := hide (hbel.out.trans (hb4.mono hbel.out.size))
      have HO4 := hide ho4
      clear hb4 ho4 hbx hbel hown HHk HPk
      obtain ⟨q3, -⟩ := HX4.out.cell 3
      obtain ⟨q4, -⟩ := HX4.out.cell 4
      obtain ⟨q5, -⟩ := HX4.out.cell 5
      go_wp2_with fail
      refine (HPO.out _ _ _ HO4.out.rd HLl.out).mono ?_
      rintro e W5 ⟨v5, rfl, ho5, hb5⟩
      rw [← HN.out] at ho5
      have HX5 := hide (HX4.out.below hb5 (Nat.le_refl _))
      have HO5 := hide (ho5.mono HB4.out.size)
      have HB5 := hide (HB4.out.trans (hb5.mono HB4.out.size))
      clear hb5 ho5 HX4 HB4 HO4
      go_wp2
      go_roundw
      case rel => exact ⟨5, by go_num, by omega, by omega, HO5, HX5, HB5⟩
      case measure => simp [intOf]
    · rw [HBF.out.2.2.2.2] at HN
      go_wp2_with fail
      refine (HHk.out _).mono ?_
      rintro e W3 ⟨rfl, rfl⟩
      go_wp2_with fail
      refine (HPk.out _ _ hown.out.rd).mono ?_
      rintro e W4 ⟨v4, rfl, ho4, hb4⟩
      have HX4 := hide (hbx.out.below hb4 (Nat.le_refl _))
      have HB4 := hide (hbel.out.trans (hb4.mono hbel.out.size))
      have HO4 := hide ho4
      clear hb4 ho4 hbx hbel hown HHk HPk
      obtain ⟨q6, -⟩ := HX4.out.cell 6
      go_wp2_with fail
      refine (HPS.out _ _ _ HO4.out.rd HLl.out).mono ?_
      rintro e W5 ⟨v5, rfl, ho5, hb5⟩
      rw [← HN.out] at ho5
      have HX5 := hide (HX4.out.below hb5 (Nat.le_refl _))
      have HO5 := hide (ho5.mono HB4.out.size)
      have HB5 := hide (HB4.out.trans (hb5.mono HB4.out.size))
      clear hb5 ho5 HX4 HB4 HO4
      go_wp2
      go_roundw
      case rel => exact ⟨6, by go_num, by omega, by omega, HO5, HX5, HB5⟩
      case measure => simp [intOf]

end Go.Proofs.YtonibpnhhdjklaaDoor
