/- Contracts of schema: putValue, Encode. -/
import Derived.Test.YtddhcohjmgdajaaDoorSchemaOwnA
import Derived.Test.YtddhcohjmgdajaaDoorCodecPut
import Derived.Test.YtddhcohjmgdajaaDoorPack4
import Derived.Deep.RegionHeld
namespace Go.Proofs.YtddhcohjmgdajaaDoor
open Go.RowKit

set_option maxRecDepth 100000 in
set_option maxHeartbeats 2000000 in
theorem putValue_any (v : Value) (l : List UInt8) (f : Nat) (hf1 : 1 ≤ f) (hf5 : f ≤ 5) (r : Rec) (hfit : FitsR r) (w : World) (hr : Rd w v l) (hlim : l.length ≤ 80000) :
    Calls Tryd.prog 79 #[v, .int .i64 (f : Int), recV r] w fun e w' => ∃ v', e = .returned v' ∧ Own w' w.heap.size v' (l ++ bytesF r f) ∧ Below w.heap.size w w' := by
  have HR := hide hr
  obtain ⟨ao, cap, rfl, -⟩ := hr
  have HB0 : Hid (∀ X, Below w.heap.size w (w.alloc X)) := fun X => (Below.refl _ _).alloc (Nat.le_refl _) X
  have HRW := hide (fun X => HR.out.below (HB0.out X) (Nat.le_refl _))
  have hre := fitsR_resp hfit
  obtain ⟨g1, g2, g3, g4, g5, g6, g7, g8, g9⟩ := hfit
  have HPU : Hid (∀ n W, Rd W (.slice ao l.length cap) l → 0 ≤ n → n < 4611686018427387904 → Calls Tryd.prog 42 #[.slice ao l.length cap, .int .i64 n] W fun e w' => ∃ v', e = .returned v' ∧ Own w' W.heap.size v' (l ++ Lib.uvarint n.toNat) ∧ Below W.heap.size W w') := fun n W h n0 n1 => by
    have h := put_any _ l n W h (by omega)
    rw [putOf_small n0 n1] at h
    exact h
  have HPS : Hid (∀ W, Rd W (.slice ao l.length cap) l → Calls Tryd.prog 97 #[.slice ao l.length cap, .int .i64 r.resp] W fun e w' => ∃ v', e = .returned v' ∧ Own w' W.heap.size v' (l ++ Lib.uvarint (Lib.zigzag r.resp)) ∧ Below W.heap.size W w') := fun W h => putSigned_any _ l r.resp W h (by omega) hre.1 hre.2
  have HPO : Hid (∀ W, Rd W (.slice ao l.length cap) l → Calls Tryd.prog 96 #[.slice ao l.length cap, .agg #[.int .i64 r.op.code, .int .i64 r.op.a, .int .i64 r.op.b]] W fun e w' => ∃ v', e = .returned (.tuple #[v', .int .i64 0]) ∧ Own w' W.heap.size v' (l ++ putOpL r.op) ∧ Below W.heap.size W w') := fun W h => by
    have h := putOp_own _ l r.op W h (by omega)
    unfold PutO at h
    rw [if_pos g1, if_pos g1] at h
    exact h
  have HI := hide (And.intro g2 g3)
  have HSQ := hide (And.intro g4 g5)
  have HPR := hide (And.intro g6 (show r.proc < 4611686018427387904 by omega))
  clear g1 g2 g3 g4 g5 g6 g7 g8 g9 hre hlim
  have hc : f = 1 ∨ f = 2 ∨ f = 3 ∨ f = 4 ∨ f = 5 := by omega
  clear hf1 hf5
  rcases hc with rfl | rfl | rfl | rfl | rfl
  · show Calls Tryd.prog _ _ w fun e w' => ∃ v', e = .returned v' ∧ Own w' w.heap.size v' (l ++ Lib.uvarint r.idx.toNat) ∧ Below w.heap.size w w'
    obtain ⟨idx, proc, seq, ⟨code, a, b⟩, resp⟩ := r
    simp only at *
    show Calls Tryd.prog _ #[_, _, .agg #[.int .i64 idx, .int .i64 proc, .int .i64 seq, .int .i64 code, .int .i64 a, .int .i64 b, .int .i64 resp]] w _
    go_enter Tryd.func79, Tryd.ntmps79
    go_wp2_with fail
    refine (HPU.out _ _ (HRW.out _) HI.out.1 HI.out.2).mono ?_
    rintro e W1 ⟨v1, rfl, ho1, hb1⟩
    have HO1 := hide (ho1.mono (HB0.out _).size)
    have HB1 := hide ((HB0.out _).trans (hb1.mono (HB0.out _).size))
    clear ho1 hb1
    go_wp2
    go_ret
    exact ⟨_, rfl, HO1.out, HB1.out⟩
  · show Calls Tryd.prog _ _ w fun e w' => ∃ v', e = .returned v' ∧ Own w' w.heap.size v' (l ++ Lib.uvarint r.proc.toNat) ∧ Below w.heap.size w w'
    obtain ⟨idx, proc, seq, ⟨code, a, b⟩, resp⟩ := r
    simp only at *
    show Calls Tryd.prog _ #[_, _, .agg #[.int .i64 idx, .int .i64 proc, .int .i64 seq, .int .i64 code, .int .i64 a, .int .i64 b, .int .i64 resp]] w _
    go_enter Tryd.func79, Tryd.ntmps79
    go_wp2_with fail
    refine (HPU.out _ _ (HRW.out _) HPR.out.1 HPR.out.2).mono ?_
    rintro e W1 ⟨v1, rfl, ho1, hb1⟩
    have HO1 := hide (ho1.mono (HB0.out _).size)
    have HB1 := hide ((HB0.out _).trans (hb1.mono (HB0.out _).size))
    clear ho1 hb1
    go_wp2
    go_ret
    exact ⟨_, rfl, HO1.out, HB1.out⟩
  · show Calls Tryd.prog _ _ w fun e w' => ∃ v', e = .returned v' ∧ Own w' w.heap.size v' (l ++ Lib.uvarint r.seq.toNat) ∧ Below w.heap.size w w'
    obtain ⟨idx, proc, seq, ⟨code, a, b⟩, resp⟩ := r
    simp only at *
    show Calls Tryd.prog _ #[_, _, .agg #[.int .i64 idx, .int .i64 proc, .int .i64 seq, .int .i64 code, .int .i64 a, .int .i64 b, .int .i64 resp]] w _
    go_enter Tryd.func79, Tryd.ntmps79
    go_wp2_with fail
    refine (HPU.out _ _ (HRW.out _) HSQ.out.1 HSQ.out.2).mono ?_
    rintro e W1 ⟨v1, rfl, ho1, hb1⟩
    have HO1 := hide (ho1.mono (HB0.out _).size)
    have HB1 := hide ((HB0.out _).trans (hb1.mono (HB0.out _).size))
    clear ho1 hb1
    go_wp2
    go_ret
    exact ⟨_, rfl, HO1.out, HB1.out⟩
  · show Calls Tryd.prog _ _ w fun e w' => ∃ v', e = .returned v' ∧ Own w' w.heap.size v' (l ++ putOpL r.op) ∧ Below w.heap.size w w'
    obtain ⟨idx, proc, seq, ⟨code, a, b⟩, resp⟩ := r
    simp only at *
    show Calls Tryd.prog _ #[_, _, .agg #[.int .i64 idx, .int .i64 proc, .int .i64 seq, .int .i64 code, .int .i64 a, .int .i64 b, .int .i64 resp]] w _
    go_enter Tryd.func79, Tryd.ntmps79
    go_wp2_with fail
    refine (HPO.out _ (HRW.out _)).mono ?_
    rintro e W1 ⟨v1, rfl, ho1, hb1⟩
    have HO1 := hide (ho1.mono (HB0.out _).size)
    have HB1 := hide ((HB0.out _).trans (hb1.mono (HB0.out _).size))
    clear ho1 hb1
    go_wp2
    go_ret
    exact ⟨_, rfl, HO1.out, HB1.out⟩
  · show Calls Tryd.prog _ _ w fun e w' => ∃ v', e = .returned v' ∧ Own w' w.heap.size v' (l ++ Lib.uvarint (Lib.zigzag r.resp)) ∧ Below w.heap.size w w'
    obtain ⟨idx, proc, seq, ⟨code, a, b⟩, resp⟩ := r
    simp only at *
    show Calls Tryd.prog _ #[_, _, .agg #[.int .i64 idx, .int .i64 proc, .int .i64 seq, .int .i64 code, .int .i64 a, .int .i64 b, .int .i64 resp]] w _
    go_enter Tryd.func79, Tryd.ntmps79
    go_wp2_with fail
    refine (HPS.out _ (HRW.out _)).mono ?_
    rintro e W1 ⟨v1, rfl, ho1, hb1⟩
    have HO1 := hide (ho1.mono (HB0.out _).size)
    have HB1 := hide ((HB0.out _).trans (hb1.mono (HB0.out _).size))
    clear ho1 hb1
    go_wp2
    go_ret
    exact ⟨_, rfl, HO1.out, HB1.out⟩

/-- What stands there ahead of the k-th field. -/
def partK (v : Int) (r : Rec) (k : Nat) : List UInt8 := Lib.uvarint v.toNat ++ encFs r ((fieldsV v).take k)

theorem partK_zero (v : Int) (r : Rec) : partK v r 0 = Lib.uvarint v.toNat := List.append_nil _

theorem partK_all (v : Int) (r : Rec) : partK v r (fieldsV v).length = encR v r := by
  unfold partK encR
  rw [List.take_length]

theorem partK_succ (v : Int) (r : Rec) (k : Nat) (hk : k < (fieldsV v).length) : partK v r (k + 1) = (partK v r k ++ Lib.uvarint ((fieldsV v).getD k 0)) ++ bytesF r ((fieldsV v).getD k 0) := by
  unfold partK
  have h : (fieldsV v).take (k + 1) = (fieldsV v).take k ++ [(fieldsV v).getD k 0] := by
    rw [List.take_add_one]
    simp [List.getD, hk]
  rw [h, encFs_snoc]
  simp only [List.append_assoc]

theorem partK_length {v : Int} (h1 : 1 ≤ v) (h3 : v ≤ 3) {r : Rec} (h : FitsR r) (k : Nat) : (partK v r k).length ≤ 300 := by
  have h4 := uv10' (n := v.toNat) (by omega)
  have h5 := fields_five v
  have h6 := encFs_length h ((fieldsV v).take k) (fun f hf => h5.2 f (List.mem_of_mem_take hf))
  have h7 : ((fieldsV v).take k).length ≤ (fieldsV v).length := List.length_take_le' k (fieldsV v)
  unfold partK
  rw [List.length_append]
  omega

theorem fieldsI_eq (v : Int) : fieldsI v = (fieldsV v).map (fun n : Nat => (n : Int)) := by
  unfold fieldsI fieldsV
  repeat' split
  all_goals rfl

theorem fieldsI_len (v : Int) : (fieldsI v).length = (fieldsV v).length := by rw [fieldsI_eq, List.length_map]

theorem fieldsI_get (v : Int) (k : Nat) (hk : k < (fieldsV v).length) : (fieldsI v).getD k 0 = (((fieldsV v).getD k 0 : Nat) : Int) := by
  rw [fieldsI_eq]
  simp [List.getD, hk]

theorem fieldsV_get (v : Int) (k : Nat) (hk : k < (fieldsV v).length) : 1 ≤ (fieldsV v).getD k 0 ∧ (fieldsV v).getD k 0 ≤ 5 := by
  have hm : (fieldsV v).getD k 0 ∈ fieldsV v := by
    have : (fieldsV v).getD k 0 = (fieldsV v)[k] := by simp [List.getD, hk]
    rw [this]
    exact List.getElem_mem hk
  generalize (fieldsV v).getD k 0 = f at *
  unfold fieldsV at hm
  split at hm
  · simp at hm; omega
  · split at hm
    · simp at hm; omega
    · simp at hm; omega

set_option maxRecDepth 100000 in
set_option maxHeartbeats 4000000 in
theorem encodeR_any (v : Int) (r : Rec) (w : World) (ht : TabF w) :
    Calls Tryd.prog 63 #[.int .i64 v, recV r] w fun e w' => EncodedR w v r e w' := by
  have HB0 : Hid (∀ X, Below w.heap.size w (w.alloc X)) := fun X => (Below.refl _ _).alloc (Nat.le_refl _) X
  have X1 : Hid (∀ cs, Br (w.alloc (.cells cs 48)) w.heap.size cs) := fun cs => heap_alloc_new w _
  have HV := hide (fun B hB W => isVersion_any v B hB W)
  have HF := hide (fun W => fitsR_any r W)
  unfold EncodedR encErr encL
  by_cases hv : 1 ≤ v ∧ v ≤ 3
  case neg =>
    rw [if_neg hv, if_neg hv]
    have HD := hide (decide_eq_false hv).symm
    clear hv ht HF
    obtain ⟨idx, proc, seq, ⟨code, a, b⟩, resp⟩ := r
    show Calls Tryd.prog _ #[_, .agg #[.int .i64 idx, .int .i64 proc, .int .i64 seq, .int .i64 code, .int .i64 a, .int .i64 b, .int .i64 resp]] w _
    go_enter Tryd.func63, Tryd.ntmps63
    go_wp2_with fail
    refine (HV.out _ HD.out _).mono ?_
    rintro e W1 ⟨rfl, rfl⟩
    go_wp2
    go_ret2
    exact ⟨_, rfl, Own.nil _ _, HB0.out _⟩
  rw [if_pos hv, if_pos hv]
  have HD := hide (decide_eq_true hv).symm
  by_cases hf : FitsR r
  case neg =>
    rw [if_neg hf, if_neg hf]
    rw [decide_eq_false hf] at HF
    clear hf hv ht
    obtain ⟨idx, proc, seq, ⟨code, a, b⟩, resp⟩ := r
    have HF' : Hid (∀ W, Calls Tryd.prog 41 #[.agg #[.int .i64 idx, .int .i64 proc, .int .i64 seq, .int .i64 code, .int .i64 a, .int .i64 b, .int .i64 resp]] W fun e w' => e = .returned (.bool false) ∧ Below W.heap.size W w') := HF.out
    clear HF
    show Calls Tryd.prog _ #[_, .agg #[.int .i64 idx, .int .i64 proc, .int .i64 seq, .int .i64 code, .int .i64 a, .int .i64 b, .int .i64 resp]] w _
    go_enter Tryd.func63, Tryd.ntmps63
    go_wp2_with fail
    refine (HV.out _ HD.out _).mono ?_
    rintro e W1 ⟨rfl, rfl⟩
    go_wp2_with fail
    refine (HF'.out _).mono ?_
    rintro e W1 ⟨rfl, hb1⟩
    have HB1 := hide ((HB0.out _).trans (hb1.mono (HB0.out _).size))
    clear hb1
    go_wp2
    go_ret2
    exact ⟨_, rfl, Own.nil _ _, HB1.out⟩
  rw [if_pos hf, if_pos hf]
  rw [decide_eq_true hf] at HF
  obtain ⟨h1, h3⟩ := hv
  have HL := hide (fun k => partK_length h1 h3 hf k)
  have HP0 := hide (partK_zero v r)
  have HPA := hide (partK_all v r)
  have HPK := hide (fun k hk => partK_succ v r k hk)
  have HFG := hide (fun k hk => fieldsI_get v k hk)
  have HFV := hide (fun k hk => fieldsV_get v k hk)
  have HPV := hide (fun v1 l1 f h1 h5 W h hl => putValue_any v1 l1 f h1 h5 r hf W h hl)
  have HPU : Hid (∀ v1 l (n : Nat) W, Rd W v1 l → l.length ≤ 1000 → n < 4611686018427387904 → Calls Tryd.prog 42 #[v1, .int .i64 (n : Int)] W fun e w' => ∃ v', e = .returned v' ∧ Own w' W.heap.size v' (l ++ Lib.uvarint n) ∧ Below W.heap.size W w') := fun v1 l n W h hl n1 => by
    have h := put_any v1 l n W h (by omega)
    rw [putOf_small (by omega) (by omega), Int.toNat_natCast] at h
    exact h
  obtain ⟨x, hx, hrx⟩ := ht.get v h1 h3
  have h0 := ht.lt
  have HXC : Hid (∀ W, Below w.heap.size w W → W.cell? ⟨0, v.toNat, none⟩ = some x) := hide (fun W hb => (hb.cell (p := ⟨0, v.toNat, none⟩) h0).trans hx)
  have HRX := hide (fun W (hb : Below w.heap.size w W) => hrx.below hb (Nat.le_refl _))
  have hlen := fieldsI_len v
  clear ht hx hf
  obtain ⟨n, rfl⟩ : ∃ n : Nat, v = (n : Int) := ⟨v.toNat, by omega⟩
  rw [Int.toNat_natCast] at HXC HP0
  obtain ⟨ax, cx, rfl, -⟩ := hrx
  have HRC : Hid (∀ W, Below w.heap.size w W → ∀ k, k < (fieldsI (n : Int)).length → ∃ g off, ax = some ⟨g, off, none⟩ ∧ W.cell? ⟨g, off + k, none⟩ = some (.int .i64 ((fieldsI (n : Int)).getD k 0))) := hide (fun W hb k hk => by
    obtain ⟨a', c', e, -, -, -, -, hao⟩ := HRX.out W hb
    simp only [Value.slice.injEq] at e
    obtain ⟨rfl, -, -⟩ := e
    rcases hao with h | ⟨g, off, hg, hc⟩
    · rw [h] at hk; simp at hk
    · exact ⟨g, off, hg, hc k hk⟩)
  clear HRX
  rw [hlen] at *
  have h5 := (fields_five (n : Int)).1
  generalize fieldsI (n : Int) = FI at *
  generalize fieldsV (n : Int) = FV at *
  generalize partK (n : Int) r = PR at *
  generalize encR (n : Int) r = EN at *
  generalize bytesF r = BF at *
  obtain ⟨idx, proc, seq, ⟨code, a, b⟩, resp⟩ := r
  have HF' : Hid (∀ W, Calls Tryd.prog 41 #[.agg #[.int .i64 idx, .int .i64 proc, .int .i64 seq, .int .i64 code, .int .i64 a, .int .i64 b, .int .i64 resp]] W fun e w' => e = .returned (.bool true) ∧ Below W.heap.size W w') := HF.out
  have HPV' : Hid (∀ v1 l1 (f : Nat), 1 ≤ f → f ≤ 5 → ∀ W, Rd W v1 l1 → l1.length ≤ 80000 → Calls Tryd.prog 79 #[v1, .int .i64 (f : Int), .agg #[.int .i64 idx, .int .i64 proc, .int .i64 seq, .int .i64 code, .int .i64 a, .int .i64 b, .int .i64 resp]] W fun e w' => ∃ v', e = .returned v' ∧ Own w' W.heap.size v' (l1 ++ BF f) ∧ Below W.heap.size W w') := HPV.out
  clear HF HPV
  show Calls Tryd.prog _ #[_, .agg #[.int .i64 idx, .int .i64 proc, .int .i64 seq, .int .i64 code, .int .i64 a, .int .i64 b, .int .i64 resp]] w _
  go_enter Tryd.func63, Tryd.ntmps63
  go_wp2_with fail
  refine (HV.out _ HD.out _).mono ?_
  rintro e W1 ⟨rfl, rfl⟩
  go_wp2_with fail
  refine (HF'.out _).mono ?_
  rintro e W1 ⟨rfl, hb1⟩
  have HX1 := hide ((X1.out _).below hb1 (Nat.le_refl _))
  have HB1 := hide ((HB0.out _).trans (hb1.mono (HB0.out _).size))
  clear hb1 HF' X1 HV HD
  go_wp2_with fail
  refine (HPU.out _ [] _ _ (Rd.nil _) (by simp) (by omega)).mono ?_
  rintro e W2 ⟨v2, rfl, ho2, hb2⟩
  have HX2 := hide (HX1.out.below hb2 (Nat.le_refl _))
  have HB2 := hide (HB1.out.trans (hb2.mono HB1.out.size))
  have HO2 : Hid (Own W2 w.heap.size v2 (PR 0)) := by
    refine hide ?_
    rw [HP0.out]
    exact ho2.mono HB1.out.size
  have hx2 := HXC.out _ HB2.out
  clear hb2 ho2 HX1 HB1 HXC
  go_wp2
  go_loopw [6, 21] (fun vo i wr => ∃ k : Nat, i = .int .i64 k ∧ k ≤ FV.length ∧ Hid (Own wr w.heap.size vo (PR k)) ∧ Hid (Br wr w.heap.size #[.int .i64 idx, .int .i64 proc, .int .i64 seq, .int .i64 code, .int .i64 a, .int .i64 b, .int .i64 resp]) ∧ Hid (Below w.heap.size w wr)) (fun _ i _ => FV.length - (intOf i).toNat)
  case atStart => exact ⟨0, rfl, Nat.zero_le _, HO2, HX2, HB2⟩
  case round =>
    obtain ⟨k, rfl, hk, hown, hbx, hbel⟩ := hrel
    by_cases hlt : k < FV.length
    case neg =>
      have e6 : k = FV.length := by omega
      have hlt' : ¬ (k : Int) < (FV.length : Int) := by omega
      have HOE : Hid (Own wr w.heap.size u6 EN) := hide (by rw [← HPA.out, ← e6]; exact hown.out)
      clear e6 hown
      go_wp2
      go_ret2
      exact ⟨_, rfl, HOE.out, hbel.out⟩
    have hlt' : (k : Int) < (FV.length : Int) := by omega
    obtain ⟨g, off, rfl, hck⟩ := HRC.out _ hbel.out k hlt
    rw [HFG.out k hlt] at hck
    obtain ⟨hf1, hf5⟩ := HFV.out k hlt
    have HKS := hide (HPK.out k hlt)
    have HLK := hide (HL.out k)
    generalize FV.getD k 0 = f at *
    have HO1 := hide hown.out.rd
    obtain ⟨a6, c6, rfl, -⟩ := hown.out.rd
    obtain ⟨LK, hLK⟩ : ∃ L, L = PR k := ⟨_, rfl⟩
    rw [← hLK] at HKS HLK HO1 hown ⊢
    have HPUk : Hid (∀ W, Rd W (.slice a6 LK.length c6) LK → Calls Tryd.prog 42 #[.slice a6 LK.length c6, .int .i64 (f : Int)] W fun e w' => ∃ v', e = .returned v' ∧ Own w' W.heap.size v' (LK ++ Lib.uvarint f) ∧ Below W.heap.size W w') := hide (fun W h => HPU.out _ _ _ W h (by have := HLK.out; omega) (by omega))
    have HL3 : Hid ((LK ++ Lib.uvarint f).length ≤ 80000) := hide (by rw [List.length_append]; have := HLK.out; have := uv10' (n := f) (by omega); omega)
    have HPVk : Hid (∀ v1 W, Rd W v1 (LK ++ Lib.uvarint f) → Calls Tryd.prog 79 #[v1, .int .i64 (f : Int), .agg #[.int .i64 idx, .int .i64 proc, .int .i64 seq, .int .i64 code, .int .i64 a, .int .i64 b, .int .i64 resp]] W fun e w' => ∃ v', e = .returned v' ∧ Own w' W.heap.size v' (PR (k + 1)) ∧ Below W.heap.size W w') := hide (fun v1 W h => by
      rw [HKS.out]
      exact HPV'.out _ _ f hf1 hf5 W h HL3.out)
    generalize LK ++ Lib.uvarint f = L2 at *
    obtain ⟨L3, hL3⟩ : ∃ L, L = PR (k + 1) := ⟨_, rfl⟩
    rw [← hL3] at HPVk
    have HE3 := hide hL3
    clear hL3 hLK HRC HFG HFV HPK HL HPA HP0 HPU HPV' HKS HL3 HLK
    have hbx' := hbx.out
    obtain ⟨q0, -⟩ := hbx'.cell 0
    obtain ⟨q1, -⟩ := hbx'.cell 1
    obtain ⟨q2, -⟩ := hbx'.cell 2
    obtain ⟨q3, -⟩ := hbx'.cell 3
    obtain ⟨q4, -⟩ := hbx'.cell 4
    obtain ⟨q5, -⟩ := hbx'.cell 5
    obtain ⟨q6, -⟩ := hbx'.cell 6
    clear hbx'
    go_wp2
    go_region_held (fun w' => w'.cell? ⟨w.heap.size, 0, none⟩ = some (.int .i64 idx) ∧ w'.cell? ⟨w.heap.size, 1, none⟩ = some (.int .i64 proc) ∧ w'.cell? ⟨w.heap.size, 2, none⟩ = some (.int .i64 seq) ∧ w'.cell? ⟨w.heap.size, 3, none⟩ = some (.int .i64 code) ∧ w'.cell? ⟨w.heap.size, 4, none⟩ = some (.int .i64 a) ∧ w'.cell? ⟨w.heap.size, 5, none⟩ = some (.int .i64 b) ∧ w'.cell? ⟨w.heap.size, 6, none⟩ = some (.int .i64 resp)) (go_keep)
      (first
        | (go_at_call 42; refine (HPUk.out _ (HO1.out.below ((Below.refl _ _).drew) (Nat.le_refl _))).mono ?_; rintro e W3 ⟨v3, rfl, ho3, hb3⟩; have hx3 := hbx.out.below (((Below.refl _ _).drew).trans hb3) (Nat.le_refl _); have HX3 := hide hx3; have HB3 := hide (hbel.out.trans ((((Below.refl _ _).drew).trans hb3).mono hbel.out.size)); obtain ⟨a3, c3, rfl, -⟩ := ho3.rd; have HO3 := hide ho3.rd; obtain ⟨r0, -⟩ := hx3.cell 0; obtain ⟨r1, -⟩ := hx3.cell 1; obtain ⟨r2, -⟩ := hx3.cell 2; obtain ⟨r3, -⟩ := hx3.cell 3; obtain ⟨r4, -⟩ := hx3.cell 4; obtain ⟨r5, -⟩ := hx3.cell 5; obtain ⟨r6, -⟩ := hx3.cell 6; clear ho3 hb3 hx3)
        | (go_at_call 79; refine (HPVk.out _ _ HO3.out).mono ?_; rintro e W4 ⟨v4, rfl, ho4, hb4⟩; have hx4 := HX3.out.below hb4 (Nat.le_refl _); have HX4 := hide hx4; have HB4 := hide (HB3.out.trans (hb4.mono HB3.out.size)); obtain ⟨a4, c4, rfl, -⟩ := ho4.rd; have HO4 := hide (ho4.mono HB3.out.size); obtain ⟨s0, -⟩ := hx4.cell 0; obtain ⟨s1, -⟩ := hx4.cell 1; obtain ⟨s2, -⟩ := hx4.cell 2; obtain ⟨s3, -⟩ := hx4.cell 3; obtain ⟨s4, -⟩ := hx4.cell 4; obtain ⟨s5, -⟩ := hx4.cell 5; obtain ⟨s6, -⟩ := hx4.cell 6; clear ho4 hb4 hx4))
    all_goals
      go_wp2
      go_round
      case rel => exact ⟨k + 1, by go_num, by omega, hide (by rw [← HE3.out]; exact HO4.out), HX4, HB4⟩
      case measure => simp [intOf]; omega

end Go.Proofs.YtddhcohjmgdajaaDoor
