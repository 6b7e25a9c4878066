/- Contracts of delta: hasProcs, newEntries; over entries slices.ContainsFunc. -/
import Derived.Test.YtgpdbboieokldaaDeltaBase
import Derived.Test.YtgpdbboieokldaaDeltaDiff
import Derived.Test.YtgpdbboieokldaaSnapShelf
namespace Go.Proofs.Ytgpdbboieokldaa
open Go.RowKit

theorem found_any {p : Ent → Bool} {l : List Ent} {k : Int} (h : FoundE p l k) : decide (0 ≤ k) = l.any p := by
  rcases h with ⟨rfl, h⟩ | ⟨i, rfl, hi, -, h2⟩
  · have : l.any p = false := by
      rw [List.any_eq_false]
      intro x hx
      obtain ⟨j, hj, rfl⟩ := List.getElem_of_mem hx
      have := h j hj
      simpa [List.getD, hj] using this
    rw [this]
    decide
  · have : l.any p = true := by
      rw [List.any_eq_true]
      exact ⟨l[i], List.getElem_mem hi, by simpa [List.getD, hi] using h2⟩
    rw [this]
    exact decide_eq_true (by omega)

set_option maxRecDepth 100000 in
set_option maxHeartbeats 2000000 in
theorem containsFuncE_any (g R : Nat) (p : Ent → Bool) (v : Value) (l : List Ent) (w : World) (hr : RdE w v l)
    (eg : ∀ args W, (callFunc g args).run Try.prog W = .ok (.enter g args) W)
    (hp : ∀ W e, Below w.heap.size w W → Calls Try.prog g #[entV e, .pointer (some ⟨R, 0, none⟩)] W fun x w' => x = .returned (.bool (p e)) ∧ Below W.heap.size W w') :
    Calls Try.prog 52 #[v, .func (.func g) #[] #[.pointer (some ⟨R, 0, none⟩)]] w fun x w' => x = .returned (.bool (l.any p)) ∧ Below w.heap.size w w' := by
  have HIX := hide (indexFuncE_any g R p v l w hr eg hp)
  obtain ⟨va, vc, hv⟩ := hr.shape
  subst hv
  have HF := hide (fun k h => found_any (p := p) (l := l) (k := k) h)
  generalize l.any p = AN at *
  clear hr hp
  go_enter Try.func52, Try.ntmps52
  go_wp2_with fail
  refine HIX.out.mono ?_
  rintro x W1 ⟨k, rfl, hk, hb1⟩
  have HK := hide (HF.out k hk)
  have HB1 := hide hb1
  clear hk hb1 HIX
  go_wp2
  go_ret
  rw [← HK.out]
  exact ⟨rfl, HB1.out⟩

set_option maxRecDepth 100000 in
set_option maxHeartbeats 1000000 in
theorem procs11_any (e : Ent) (R : Nat) (o : Ent) (W : World) (hb : Be W R (entC e)) :
    Calls Try.prog 51 #[entV o, .pointer (some ⟨R, 0, none⟩)] W fun x w' => x = .returned (.bool (decide (o.proc = e.proc))) ∧ Below W.heap.size W w' := by
  have HB0 : Hid (∀ X, Below W.heap.size W (W.alloc X)) := fun X => (Below.refl _ _).alloc (Nat.le_refl _) X
  have hlt : R < W.heap.size := hb.lt
  have HC : Hid (∀ X, (W.alloc X).cell? ⟨R, 0, none⟩ = some (.int .i64 e.proc)) := hide (fun X => by
    rw [(HB0.out X).cell (p := ⟨R, 0, none⟩) hlt]
    exact cell_of_row W R 0 _ _ _ hb)
  obtain ⟨ep, es, er⟩ := o
  unfold entV
  simp only
  have hc := HC.out
  generalize e.proc = rp at *
  clear hb HC
  by_cases h : ep = rp
  · have HE : Hid (decide (ep = rp) = true) := decide_eq_true h
    have h' : (ep == rp) = true := beq_iff_eq.2 h
    rw [HE.out]
    clear HE h
    go_enter Try.func51, Try.ntmps51
    go_wp2
    go_ret
    exact ⟨rfl, HB0.out _⟩
  · have HE : Hid (decide (ep = rp) = false) := decide_eq_false h
    have h' : (ep == rp) = false := beq_eq_false_iff_ne.2 h
    rw [HE.out]
    clear HE h
    go_enter Try.func51, Try.ntmps51
    go_wp2
    go_ret
    exact ⟨rfl, HB0.out _⟩

/-- A box of one slice of entries. -/
def Bt (w : World) (b : Nat) (v : Value) : Prop := w.heap[b]? = some (.cells #[v] 25 (0, 0))

theorem Bt.lt {w : World} {b : Nat} {v : Value} (h : Bt w b v) : b < w.heap.size := (Array.getElem?_eq_some_iff.1 h).1

theorem Bt.below {w w' : World} {b B : Nat} {v : Value} (h : Bt w b v) (hb : Below B w w') (hB : w.heap.size ≤ B) : Bt w' b v := (hb.block b (by have := h.lt; omega)).trans h

theorem Bt.cell {w : World} {b : Nat} {v : Value} (h : Bt w b v) : w.cell? ⟨b, 0, none⟩ = some v := cell_of_row w b 0 _ _ _ h

set_option maxRecDepth 100000 in
set_option maxHeartbeats 1000000 in
theorem procs1_any (v : Value) (t : List Ent) (S : Nat) (e : Ent) (W : World) (ht : RdE W v t) (hS : Bt W S v) :
    Calls Try.prog 50 #[entV e, .pointer (some ⟨S, 0, none⟩)] W fun x w' => x = .returned (.bool (!(t.any fun o => decide (o.proc = e.proc)))) ∧ Below W.heap.size W w' := by
  obtain ⟨W0, hW0⟩ : ∃ W0, W0 = W.alloc (.cells (entC e) 55) := ⟨_, rfl⟩
  have hB0 : Below W.heap.size W W0 := by rw [hW0]; exact (Below.refl _ _).alloc (Nat.le_refl _) _
  have hE : Be W0 W.heap.size (entC e) := by rw [hW0]; exact heap_alloc_new W _
  have eg : ∀ args W, (callFunc 51 args).run Try.prog W = .ok (.enter 51 args) W := enters_of Try.func51 (by kernel_rfl) rfl
  have HCF := hide (containsFuncE_any 51 W.heap.size (fun o => decide (o.proc = e.proc)) v t W0 (ht.below hB0 (Nat.le_refl _)) eg (fun W' o h => procs11_any e W.heap.size o W' (hE.below h (Nat.le_refl _))))
  have hc := (hS.below hB0 (Nat.le_refl _)).cell
  have HB0 := hide hB0
  have HW0 := hide hW0
  have hmf : ∀ (fn : Fn) (first cap : Array Value) (w : World), (Instr.makeFunc fn first cap).run Try.prog w = .ok (.func fn first cap) w := fun _ _ _ _ => rfl
  obtain ⟨va, vc, hv⟩ := ht.shape
  subst hv
  generalize (t.any fun o => decide (o.proc = e.proc)) = AN at *
  clear hB0 hE eg hW0 hS ht
  obtain ⟨ep, es, er⟩ := e
  unfold entV
  unfold entC at HW0
  dsimp only at HW0 ⊢
  go_enter Try.func50, Try.ntmps50
  go_upto_region 1 with fail
  rw [← HW0.out]
  clear HW0
  go_wp2_with fail
  refine HCF.out.mono ?_
  rintro x W1 ⟨rfl, hb1⟩
  have HB1 := hide (HB0.out.trans (hb1.mono HB0.out.size))
  clear hb1 HCF
  go_wp2
  go_ret
  exact ⟨rfl, HB1.out⟩

theorem covers_any (now old : List Ent) : (!(old.any fun e => !(now.any fun o => decide (o.proc = e.proc)))) = decide (Covers old now) := by
  rw [Bool.eq_iff_iff, decide_eq_true_eq]
  unfold Covers
  simp

set_option maxRecDepth 100000 in
set_option maxHeartbeats 1000000 in
theorem hasProcs_any (vn : Value) (now : List Ent) (vo : Value) (old : List Ent) (w : World) (hn : RdE w vn now) (ho : RdE w vo old) :
    Calls Try.prog 24 #[vn, vo] w fun x w' => x = .returned (.bool (decide (Covers old now))) ∧ Below w.heap.size w w' := by
  obtain ⟨W0, hW0⟩ : ∃ W0, W0 = w.alloc (.cells #[vn] 25) := ⟨_, rfl⟩
  have hB0 : Below w.heap.size w W0 := by rw [hW0]; exact (Below.refl _ _).alloc (Nat.le_refl _) _
  have hS : Bt W0 w.heap.size vn := by rw [hW0]; exact heap_alloc_new w _
  have eg : ∀ args W, (callFunc 50 args).run Try.prog W = .ok (.enter 50 args) W := enters_of Try.func50 (by kernel_rfl) rfl
  have hnW := hn.below hB0 (Nat.le_refl _)
  have HCF := hide (containsFuncE_any 50 w.heap.size (fun e => !(now.any fun o => decide (o.proc = e.proc))) vo old W0 (ho.below hB0 (Nat.le_refl _)) eg (fun W' e h => procs1_any vn now w.heap.size e W' (hnW.below h (Nat.le_refl _)) (hS.below h (Nat.le_refl _))))
  have HB0 := hide hB0
  have HW0 := hide hW0
  have hmf : ∀ (fn : Fn) (first cap : Array Value) (w : World), (Instr.makeFunc fn first cap).run Try.prog w = .ok (.func fn first cap) w := fun _ _ _ _ => rfl
  have HD := hide (covers_any now old)
  obtain ⟨na, nc, hv⟩ := hn.shape
  subst hv
  obtain ⟨oa, oc, hv⟩ := ho.shape
  subst hv
  obtain ⟨D, hD⟩ : ∃ D, D = decide (Covers old now) := ⟨_, rfl⟩
  rw [← hD] at HD ⊢
  generalize (old.any fun e => !(now.any fun o => decide (o.proc = e.proc))) = AN at *
  clear hD hB0 hS eg hnW hn ho hW0
  go_enter Try.func24, Try.ntmps24
  go_upto_region 1 with fail
  rw [← HW0.out]
  clear HW0
  go_wp2_with fail
  refine HCF.out.mono ?_
  rintro x W1 ⟨rfl, hb1⟩
  have HB1 := hide (HB0.out.trans (hb1.mono HB0.out.size))
  clear hb1 HCF
  go_wp2
  go_ret
  rw [← HD.out]
  exact ⟨rfl, HB1.out⟩

set_option maxRecDepth 100000 in
set_option maxHeartbeats 1000000 in
theorem newEntries1_any (e : Ent) (R : Nat) (o : Ent) (W : World) (hb : Be W R (entC e)) :
    Calls Try.prog 56 #[entV o, .pointer (some ⟨R, 0, none⟩)] W fun x w' => x = .returned (.bool (eqEnt o e)) ∧ Below W.heap.size W w' := by
  have HB0 : Hid (∀ X, Below W.heap.size W (W.alloc X)) := fun X => (Below.refl _ _).alloc (Nat.le_refl _) X
  have HE : Hid (∀ X, Be (W.alloc X) R (entC e)) := hide (fun X => hb.below (HB0.out X) (Nat.le_refl _))
  have hgd := guard_ent
  have heq := fun W => eql_ent W o e
  have hc0 := fun X => ((HE.out X).cell 0).1
  have hc1 := fun X => ((HE.out X).cell 1).1
  have hc2 := fun X => ((HE.out X).cell 2).1
  generalize eqEnt o e = EQ at *
  clear hb HE
  obtain ⟨op, os, or⟩ := o
  obtain ⟨ep, es, er⟩ := e
  unfold entV
  unfold entC at hc0 hc1 hc2
  dsimp only at *
  go_enter Try.func56, Try.ntmps56
  go_wp2
  go_ret
  exact ⟨rfl, HB0.out _⟩

theorem diffT_snoc {a b : List Ent} {k : Nat} (h : k < b.length) : diffT a (b.take (k + 1)) = if b.getD k zeroE ∈ a then diffT a (b.take k) else diffT a (b.take k) ++ [b.getD k zeroE] := by
  rw [takeE_snoc h]
  unfold diffT
  rw [List.filter_append]
  generalize b.getD k zeroE = e
  by_cases hm : e ∈ a
  · rw [if_pos hm]
    simp [hm]
  · rw [if_neg hm]
    simp [hm]

theorem any_mem (a : List Ent) (e : Ent) : (a.any fun o => eqEnt o e) = decide (e ∈ a) := by
  rw [Bool.eq_iff_iff]
  simp only [List.any_eq_true, decide_eq_true_eq]
  constructor
  · rintro ⟨o, ho, h⟩
    rw [← (eqEnt_iff _ _).1 h]
    exact ho
  · intro h
    exact ⟨e, h, eqEnt_self e⟩

theorem diffT_len (a b : List Ent) : (diffT a b).length ≤ b.length := List.length_filter_le _ _

set_option maxRecDepth 100000 in
set_option maxHeartbeats 4000000 in
theorem newEntries_any (vo : Value) (old : List Ent) (vn : Value) (now : List Ent) (w : World) (ho : RdE w vo old) (hn : RdE w vn now) (hlim : now.length ≤ 1000000) :
    Calls Try.prog 28 #[vo, vn] w fun x w' => ∃ v', x = .returned v' ∧ OwnE w' w.heap.size v' (diffT old now) ∧ Below w.heap.size w w' := by
  have eg : ∀ args W, (callFunc 56 args).run Try.prog W = .ok (.enter 56 args) W := enters_of Try.func56 (by kernel_rfl) rfl
  have HCF : Hid (∀ W R e, RdE W vo old → Be W R (entC e) → Calls Try.prog 52 #[vo, .func (.func 56) #[] #[.pointer (some ⟨R, 0, none⟩)]] W fun x w' => x = .returned (.bool (decide (e ∈ old))) ∧ Below W.heap.size W w') := hide (fun W R e hr hb => by
    have h := containsFuncE_any 56 R (fun o => eqEnt o e) vo old W hr eg (fun W' o h => newEntries1_any e R o W' (hb.below h (Nat.le_refl _)))
    rw [any_mem] at h
    exact h)
  have HO := hide ho
  have hmf : ∀ (fn : Fn) (first cap : Array Value) (w : World), (Instr.makeFunc fn first cap).run Try.prog w = .ok (.func fn first cap) w := fun _ _ _ _ => rfl
  obtain ⟨oa, oc, hv⟩ := ho.shape
  subst hv
  obtain ⟨na, nc, rfl, -, hcm, -, -, hao⟩ := hn
  have HAO := hide hao
  have HDN := hide (fun k h => diffT_snoc (a := old) (b := now) (k := k) h)
  have HDL : Hid (∀ k, (diffT old (now.take k)).length ≤ now.length) := hide (fun k => Nat.le_trans (diffT_len _ _) (by rw [List.length_take]; omega))
  have HD0 : Hid (diffT old (now.take 0) = []) := hide rfl
  have HDE : Hid (∀ k, now.length ≤ k → diffT old (now.take k) = diffT old now) := hide (fun k h => by rw [List.take_of_length_le h])
  have hmi : (now.length : Int) ≤ 1000000 := by omega
  generalize diffT old now = DT at *
  clear eg ho hao hcm
  go_enter Try.func28, Try.ntmps28
  go_wp2
  go_loopw [5, 11] (fun vo vi wr => ∃ k : Nat, vi = .int .i64 (k : Int) ∧ k ≤ now.length ∧ Hid (OwnE wr w.heap.size vo (diffT old (now.take k))) ∧ Hid (Below w.heap.size w wr)) (fun _ vi _ => now.length - (intOf vi).toNat)
  case atStart => exact ⟨0, rfl, Nat.zero_le _, hide (by rw [HD0.out]; exact OwnE.nil _ _), Below.refl _ _⟩
  case round =>
    obtain ⟨k, rfl, hk, hO, hB⟩ := hrel
    by_cases hlt : k < now.length
    case neg =>
      have hni : ¬ (k : Int) < (now.length : Int) := by omega
      rw [HDE.out k (by omega)] at hO
      go_wp2
      go_ret
      exact ⟨_, rfl, hO.out, hB.out⟩
    have hki : (k : Int) < (now.length : Int) := by omega
    rcases HAO.out with h0 | ⟨c, off, rfl, hc⟩
    · rw [h0] at hlt; simp at hlt
    obtain ⟨c0, c1, c2⟩ := (hc k hlt).keep (hB.out.block c (hc k hlt).lt)
    have HNX := hide (HDN.out k hlt)
    have hDL := HDL.out k
    generalize diffT old (now.take k) = DK at *
    obtain ⟨va, vc, hv⟩ := hO.out.shape
    subst hv
    obtain ⟨e, he⟩ : ∃ e, e = now.getD k zeroE := ⟨_, rfl⟩
    rw [← he] at HNX c0 c1 c2
    obtain ⟨W0, hW0⟩ : ∃ W0, W0 = wr.alloc (.cells (entC e) 55) := ⟨_, rfl⟩
    have hB0 : Below wr.heap.size wr W0 := by rw [hW0]; exact (Below.refl _ _).alloc (Nat.le_refl _) _
    have hE : Be W0 wr.heap.size (entC e) := by rw [hW0]; exact heap_alloc_new wr _
    have HC := hide (HCF.out W0 wr.heap.size e ((HO.out.below hB.out (Nat.le_refl _)).below hB0 (Nat.le_refl _)) hE)
    have HE0 := hide hE
    have HB0 := hide (hB.out.trans (hB0.mono hB.out.size))
    have HO0 := hide (hO.out.below hB0 (Nat.le_refl _))
    have HW0 := hide hW0
    obtain ⟨m, hm⟩ : ∃ m, m = decide (e ∈ old) := ⟨_, rfl⟩
    rw [← hm] at HC
    have HM := hide hm
    clear he hc HAO HCF HDN HDL HD0 HDE hB0 hE hW0 hm hO HO
    obtain ⟨ep, es, er⟩ := e
    unfold entC at HW0 HE0
    dsimp only at *
    go_upto_region 5 with fail
    rw [← HW0.out]
    clear HW0
    go_wp2_with fail
    refine HC.out.mono ?_
    rintro x W1 ⟨rfl, hb1⟩
    have HB1 := hide (HB0.out.trans (hb1.mono HB0.out.size))
    have HE1 := hide (HE0.out.below hb1 (Nat.le_refl _))
    have HO1 := hide (HO0.out.below hb1 (Nat.le_refl _))
    clear hb1 HC HB0 HE0 HO0
    cases m with
    | true =>
      rw [if_pos (of_decide_eq_true HM.out.symm)] at HNX
      go_wp2
      go_roundw
      case rel => exact ⟨k + 1, by go_num, by omega, hide (by rw [HNX.out]; exact HO1.out), HB1⟩
      case measure => simp [intOf]; omega
    | false =>
      rw [if_neg (of_decide_eq_false HM.out.symm)] at HNX
      obtain ⟨q0, -⟩ := HE1.out.cell 0
      obtain ⟨q1, -⟩ := HE1.out.cell 1
      obtain ⟨q2, -⟩ := HE1.out.cell 2
      have hs1 := HB1.out.size
      go_wp2_with (at_builtin; refine wpList_append_ent _ rfl _ _ rfl w.heap.size _ DK rfl HO1.out ⟨ep, es, er⟩ rfl (by omega) hs1 ?_)
      intro v5 W5 ho5 hb5
      have HO5 := hide ho5
      have HB5 := hide (HB1.out.trans hb5)
      clear ho5 hb5
      go_wp2
      go_roundw
      case rel => exact ⟨k + 1, by go_num, by omega, hide (by rw [HNX.out]; exact HO5.out), HB5⟩
      case measure => simp [intOf]; omega

end Go.Proofs.Ytgpdbboieokldaa
