/- The reader of the landed delta: numbers, and the two closures that it answers. -/
import Derived.Test.YtgpdbboieokldaaGreatPack3
import Derived.Test.YtgpdbboieokldaaGreatSnapDecA
namespace Go.Proofs.YtgpdbboieokldaaGreat
open Go.RowKit

/-- Numbers written at places. -/
def setAtI (w : World) : List (Nat × Nat) → List Int → World
  | p :: ps, n :: ns => setAtI (w.setCell ⟨p.1, p.2, none⟩ (.int .i64 n)) ps ns
  | _, _ => w

theorem setAtI_snoc : ∀ (w : World) (ps : List (Nat × Nat)) (ns : List Int) (p : Nat × Nat) (n : Int), ps.length = ns.length → setAtI w (ps ++ [p]) (ns ++ [n]) = (setAtI w ps ns).setCell ⟨p.1, p.2, none⟩ (.int .i64 n)
  | w, [], [], p, n, _ => rfl
  | w, q :: ps, m :: ns, p, n, h => by
    rw [List.cons_append, List.cons_append, setAtI, setAtI_snoc _ ps ns p n (by simpa using h), setAtI]

theorem setAtI_num : ∀ (w : World) (ps : List (Nat × Nat)) (ns : List Int) {p : Nat × Nat}, NumAt w p → NumAt (setAtI w ps ns) p
  | w, [], _, p, h => by cases ‹List Int› <;> exact h
  | w, q :: ps, [], p, h => h
  | w, q :: ps, m :: ns, p, h => by
    rw [setAtI]
    exact setAtI_num _ ps ns (h.set q m)

theorem setAtI_block : ∀ (w : World) (ps : List (Nat × Nat)) (ns : List Int) (k : Nat), (∀ p ∈ ps, p.1 ≠ k) → (setAtI w ps ns).heap[k]? = w.heap[k]?
  | w, [], ns, k, _ => by cases ns <;> rfl
  | w, q :: ps, [], k, _ => rfl
  | w, q :: ps, m :: ns, k, h => by
    rw [setAtI, setAtI_block _ ps ns k (fun p hp => h p (by simp [hp]))]
    exact Below.heap_setCell _ _ _ _ (fun e => h q (by simp) e.symm)

theorem setAtI_size : ∀ (w : World) (ps : List (Nat × Nat)) (ns : List Int), (setAtI w ps ns).heap.size = w.heap.size
  | w, [], ns => by cases ns <;> rfl
  | w, q :: ps, [] => rfl
  | w, q :: ps, m :: ns => by
    rw [setAtI, setAtI_size _ ps ns]
    simp [World.setCell]

theorem setAtI_below : ∀ (w : World) (ps : List (Nat × Nat)) (ns : List Int) (B : Nat) (w0 : World), (∀ p ∈ ps, B ≤ p.1) → Below B w0 w → Below B w0 (setAtI w ps ns)
  | w, [], ns, B, w0, _, h => by cases ns <;> exact h
  | w, q :: ps, [], B, w0, _, h => h
  | w, q :: ps, m :: ns, B, w0, hp, h => by
    rw [setAtI]
    exact setAtI_below _ ps ns B w0 (fun p h => hp p (by simp [h])) (h.setCell (hp q (by simp)) _)

/-- Two worlds that are alike but for one block (and how often was drawn). -/
structure AlikeB (bb : Nat) (X W : World) : Prop where
  os : W.os = X.os
  tape : W.tape = X.tape
  output : W.output = X.output
  size : W.heap.size = X.heap.size
  block : ∀ k, k ≠ bb → W.heap[k]? = X.heap[k]?

theorem AlikeB.refl (bb : Nat) (X : World) : AlikeB bb X X := ⟨rfl, rfl, rfl, rfl, fun _ _ => rfl⟩

theorem AlikeB.drew {bb : Nat} {X W : World} (h : AlikeB bb X W) : AlikeB bb X W.drew := ⟨h.os, h.tape, h.output, h.size, h.block⟩

theorem setCell_congr {X W : World} {k : Nat} (h : W.heap[k]? = X.heap[k]?) (a : Addr) (u : Value) : (W.setCell a u).heap[k]? = (X.setCell a u).heap[k]? := by
  simp only [World.setCell, Array.getElem?_modify, h]

theorem AlikeB.set {bb : Nat} {X W : World} (h : AlikeB bb X W) (a : Addr) (v : Value) : AlikeB bb (X.setCell a v) (W.setCell a v) :=
  ⟨h.os, h.tape, h.output, by simp [World.setCell, h.size], fun k hk => setCell_congr (h.block k hk) a v⟩

theorem AlikeB.own {bb : Nat} {X W : World} (h : AlikeB bb X W) (j : Nat) (v : Value) : AlikeB bb X (W.setCell ⟨bb, j, none⟩ v) :=
  ⟨h.os, h.tape, h.output, by simp [World.setCell, h.size], fun k hk => (Below.heap_setCell _ _ _ _ hk).trans (h.block k hk)⟩

theorem AlikeB.below {bb B : Nat} {X W w0 : World} (h : AlikeB bb X W) (hB : B ≤ bb) (hb : Below B w0 X) : Below B w0 W :=
  ⟨h.os.trans hb.os, h.tape.trans hb.tape, h.output.trans hb.output, by rw [h.size]; exact hb.size, fun k hk => (h.block k (by omega)).trans (hb.block k hk)⟩

theorem AlikeB.cell {bb : Nat} {X W : World} (h : AlikeB bb X W) {k : Nat} (hk : k ≠ bb) (j : Nat) : W.cell? ⟨k, j, none⟩ = X.cell? ⟨k, j, none⟩ := World.cell?_of_block (a := ⟨k, j, none⟩) (h.block k hk)

theorem AlikeB.froz {bb : Nat} {X W : World} (h : AlikeB bb X W) {k : Nat} (hk : k ≠ bb) (j : Nat) : W.frozen? ⟨k, j, none⟩ = X.frozen? ⟨k, j, none⟩ := by
  simp only [World.frozen?, h.block k hk]

/-- A box that holds one slice of bytes. -/
def Bv (w : World) (b : Nat) (v : Value) : Prop := w.heap[b]? = some (.cells #[v] 26 (0, 0))

theorem Bv.lt {w : World} {b : Nat} {v : Value} (h : Bv w b v) : b < w.heap.size := (Array.getElem?_eq_some_iff.1 h).1

theorem Bv.cell {w : World} {b : Nat} {v : Value} (h : Bv w b v) : w.cell? ⟨b, 0, none⟩ = some v ∧ w.frozen? ⟨b, 0, none⟩ = false :=
  ⟨(cell_of_row w b 0 _ _ _ h).trans rfl, frozen_of_row w b 0 _ _ h⟩

theorem Bv.set {w : World} {b : Nat} {v : Value} (h : Bv w b v) (x : Value) : Bv (w.setCell ⟨b, 0, none⟩ x) b x := by
  have := heap_setCell_same w b 0 _ _ x h
  unfold Bv
  simpa using this

theorem Bv.other {w : World} {b c : Nat} {v : Value} (h : Bv w b v) (j : Nat) (x : Value) (hne : b ≠ c) : Bv (w.setCell ⟨c, j, none⟩ x) b v := (Below.heap_setCell _ _ _ _ hne).trans h

theorem Bv.below {w w' : World} {b B : Nat} {v : Value} (h : Bv w b v) (hb : Below B w w') (hB : w.heap.size ≤ B) : Bv w' b v := (hb.block b (by have := h.lt; omega)).trans h

/-- The numbers that bytes begin with, by a getter. -/
def getsG (dg : List UInt8 → Int × Nat) : Nat → List UInt8 → Option (List Int × List UInt8)
  | 0, b => some ([], b)
  | n + 1, b => if (dg b).2 = 0 then none else (getsG dg n (b.drop (dg b).2)).map (fun r => ((dg b).1 :: r.1, r.2))

theorem getsG_step {dg : List UInt8 → Int × Nat} {n : Nat} {b : List UInt8} (h : (dg b).2 ≠ 0) : getsG dg (n + 1) b = (getsG dg n (b.drop (dg b).2)).map (fun r => ((dg b).1 :: r.1, r.2)) := by rw [getsG, if_neg h]

theorem getsG_stop {dg : List UInt8 → Int × Nat} {n : Nat} {b : List UInt8} (h : (dg b).2 = 0) : getsG dg (n + 1) b = none := by rw [getsG, if_pos h]

/-- What reading into places answers. -/
def ReadR (w : World) (bb : Nat) (v : Value) (b : List UInt8) (ps : List (Nat × Nat)) (r : Option (List Int × List UInt8)) (e : Ending) (w' : World) : Prop :=
  ∃ (v' : Value) (l : List UInt8) (ns : List Int), e = .returned (.bool r.isSome) ∧ (∀ W, Rd W v b → Rd W v' l) ∧ (∀ x, r = some x → x = (ns, l)) ∧ (∀ n ∈ ns, I64 n) ∧ ns.length ≤ ps.length ∧ Bv w' bb v' ∧ AlikeB bb (setAtI w (ps.take ns.length) ns) w'

set_option maxRecDepth 100000 in
theorem numbersD_any (ao : Option Addr) (n cap : Nat) (w : World) :
    Calls Tryz.prog 60 #[.slice ao n cap] w fun e w' => e = .returned (.tuple #[.func (.func 87) #[] #[.pointer (some ⟨w.heap.size, 0, none⟩)], .func (.func 88) #[] #[.pointer (some ⟨w.heap.size, 0, none⟩)]]) ∧ w' = w.alloc (.cells #[.slice ao n cap] 26) := by
  have hmf : ∀ (fn : Fn) (first cap : Array Value) (w : World), (Instr.makeFunc fn first cap).run Tryz.prog w = .ok (.func fn first cap) w := fun _ _ _ _ => rfl
  go_enter Tryz.func60, Tryz.ntmps60
  go_wp2
  go_ret2
  exact ⟨rfl, rfl⟩

set_option maxRecDepth 100000 in
theorem leftD_any (b : Nat) (ao : Option Addr) (n cap : Nat) (w : World) (hc : w.cell? ⟨b, 0, none⟩ = some (.slice ao n cap)) :
    Calls Tryz.prog 88 #[.pointer (some ⟨b, 0, none⟩)] w fun e w' => e = .returned (.int .i64 (n : Int)) ∧ w' = w := by
  go_enter Tryz.func88, Tryz.ntmps88
  go_wp2
  go_ret
  exact ⟨rfl, rfl⟩

set_option maxRecDepth 100000 in
set_option maxHeartbeats 4000000 in
theorem readD1_any (g : Nat) (dg : List UInt8 → Int × Nat) (eg : ∀ args W, (callFunc g args).run Tryz.prog W = .ok (.enter g args) W)
    (hg : ∀ v l W, Rd W v l → Calls Tryz.prog g #[v] W fun e w' => e = .returned (.tuple #[.int .i64 (dg l).1, .int .i64 ((dg l).2 : Nat)]) ∧ w' = W) (hdl : ∀ l, (dg l).2 ≤ l.length) (hdi : ∀ l, I64 (dg l).1)
    (N bb : Nat) (ps : List (Nat × Nat)) (v : Value) (b : List UInt8) (w : World) (hb : Bv w bb v) (hr : ∀ ns W', AlikeB bb (setAtI w (ps.take (List.length ns)) ns) W' → Rd W' v b) (hps : ∀ p ∈ ps, NumAt w p ∧ p.1 ≠ N ∧ p.1 ≠ bb) (hNb : N ≠ bb) (hlim : ps.length ≤ 100)
    (hN : w.heap[N]? = some (.cells (ps.map (fun p => Value.pointer (some ⟨p.1, p.2, none⟩))).toArray 85 (0, 0))) (k : Nat) (hk : k = ps.length) :
    Calls Tryz.prog 87 #[.func (.func g) #[] #[], .slice (some ⟨N, 0, none⟩) k k, .pointer (some ⟨bb, 0, none⟩)] w fun e w' => ReadR w bb v b ps (getsG dg ps.length b) e w' := by
  subst hk
  have HPS := hide hps
  have HN : Hid (∀ q, q < ps.length → w.cell? ⟨N, q, none⟩ = some (.pointer (some ⟨(ps.getD q (0, 0)).1, (ps.getD q (0, 0)).2, none⟩))) := hide (fun q hq => by
    rw [cell_of_row w N q _ _ _ hN]
    simp [List.getD, hq])
  have HNS : Hid (∀ ns, (setAtI w (ps.take (List.length ns)) ns).heap[N]? = w.heap[N]?) := hide (fun ns => setAtI_block w _ ns N (fun p hp => (hps p (List.mem_of_mem_take hp)).2.1))
  have HG := hide hg
  have HR := hide hr
  have HBV := hide hb
  obtain ⟨va, vc, hv⟩ : ∃ a c, v = .slice a b.length c := by obtain ⟨a, c, h, -⟩ := hr [] _ (AlikeB.refl _ _); exact ⟨a, c, h⟩
  subst hv
  obtain ⟨GL, hGL⟩ : ∃ GL, GL = getsG dg ps.length b := ⟨_, rfl⟩
  rw [← hGL]
  have HGL0 : Hid (GL = (getsG dg (ps.length - 0) b).map (fun r => ([] ++ r.1, r.2))) := hide (by
    rw [hGL, Nat.sub_zero]
    cases getsG dg ps.length b <;> rfl)
  have HDL := hide hdl
  have HDI := hide hdi
  have HNB := hide hNb
  clear hGL hps hr hN hg hb hdl hdi hNb
  have hpi : (ps.length : Int) ≤ 100 := by omega
  go_enter Tryz.func87, Tryz.ntmps87
  go_wp2
  go_loopw [12] (fun vi wr => ∃ (q : Nat) (ns : List Int) (b' : List UInt8) (a : Option Addr) (c : Nat), vi = .int .i64 (q : Int) ∧ q ≤ ps.length ∧ ns.length = q ∧ Hid (∀ W, Rd W (.slice va b.length vc) b → Rd W (.slice a b'.length c) b') ∧ Hid (Bv wr bb (.slice a b'.length c)) ∧ Hid (AlikeB bb (setAtI w (ps.take ns.length) ns) wr) ∧ Hid (∀ n ∈ ns, I64 n) ∧ Hid (GL = (getsG dg (ps.length - q) b').map (fun r => (ns ++ r.1, r.2)))) (fun vi _ => ps.length - (intOf vi).toNat)
  case atStart => exact ⟨0, [], b, va, vc, rfl, Nat.zero_le _, rfl, hide (fun W h => h), HBV, hide (by rw [List.length_nil, List.take_zero]; exact AlikeB.refl _ w), hide (fun n h => by simp at h), HGL0⟩
  case round =>
    clear HGL0 HBV
    obtain ⟨q, ns, b', a, c, rfl, hq, hns, hV, hBv, hA, hNs, hGL⟩ := hrel
    have hR : Hid (Rd wr (.slice a b'.length c) b') := hide (hV.out wr (HR.out ns wr hA.out))
    have HNQ := hide hns
    by_cases hlt : q < ps.length
    case neg =>
      obtain rfl : q = ps.length := by omega
      have HF : Hid (GL = some (ns, b')) := hide (by
        rw [hGL.out, Nat.sub_self]
        simp [getsG])
      clear hns
      go_wp2
      go_ret
      rw [HF.out]
      exact ⟨_, b', ns, rfl, hV.out, (fun x h => by injection h with h; exact h.symm), hNs.out, by rw [HNQ.out]; exact Nat.le_refl _, hBv.out, hA.out⟩
    have hqi : (q : Int) < (ps.length : Int) := by omega
    have hsub : ps.length - q = (ps.length - (q + 1)) + 1 := by omega
    have hcN : wr.cell? ⟨N, q, none⟩ = some (.pointer (some ⟨(ps.getD q (0, 0)).1, (ps.getD q (0, 0)).2, none⟩)) := by
      rw [hA.out.cell HNB.out]
      exact (World.cell?_of_block (a := ⟨N, q, none⟩) (HNS.out ns)).trans (HN.out q hlt)
    have hmem : ps.getD q (0, 0) ∈ ps := by
      rw [show ps.getD q (0, 0) = ps[q] by simp [List.getD, hlt]]
      exact List.getElem_mem hlt
    have hpne : (ps.getD q (0, 0)).1 ≠ bb := (HPS.out _ hmem).2.2
    have hnw : NumAt (setAtI w (ps.take ns.length) ns) (ps.getD q (0, 0)) := setAtI_num w _ ns (HPS.out _ hmem).1
    have hnr : NumAt wr (ps.getD q (0, 0)) := ⟨by
      obtain ⟨x, hx⟩ := hnw.1
      exact ⟨x, by rw [hA.out.cell hpne]; exact hx⟩, by rw [hA.out.froz hpne]; exact hnw.2⟩
    have HSN : Hid (∀ n : Int, setAtI w (ps.take (ns ++ [n]).length) (ns ++ [n]) = (setAtI w (ps.take ns.length) ns).setCell ⟨(ps.getD q (0, 0)).1, (ps.getD q (0, 0)).2, none⟩ (.int .i64 n)) := hide (fun n => by
      have e1 : ps.take (ns ++ [n]).length = ps.take ns.length ++ [ps.getD q (0, 0)] := by
        rw [List.length_append, List.length_singleton, HNQ.out, List.take_add_one, List.getElem?_eq_getElem hlt]
        simp [List.getD, hlt]
      rw [e1, setAtI_snoc w _ ns _ n (by rw [List.length_take, HNQ.out]; omega)])
    obtain ⟨⟨x0, hx0⟩, hf0⟩ := hnr
    obtain ⟨b0, g0⟩ := hBv.out.cell
    clear hmem hnw HN HNS HPS hns HNB
    generalize ps.getD q (0, 0) = p at *
    obtain ⟨pb, po⟩ := p
    dsimp only at hcN hx0 hf0 HSN hpne
    have HGQ := hide (HG.out _ b' wr hR.out)
    have hdl := HDL.out b'
    have HDN := hide (HDI.out b')
    have HST := hide (getsG_step (dg := dg) (n := ps.length - (q + 1)) (b := b'))
    have HSO := hide (getsG_stop (dg := dg) (n := ps.length - (q + 1)) (b := b'))
    rw [← hsub] at HST HSO
    have HCF := hide (fun d hd => cut_from a b' c (by obtain ⟨a', c', h, h2, -⟩ := hR.out; simp only [Value.slice.injEq] at h; omega) d hd)
    generalize (dg b').2 = d at *
    generalize (dg b').1 = n at *
    clear HG HDL HDI
    by_cases hd : d = 0
    · subst hd
      have HF : Hid (GL = none) := hide (by rw [hGL.out, HSO.out rfl]; rfl)
      go_wp2_with fail
      refine HGQ.out.mono ?_
      rintro e W1 ⟨rfl, hw1⟩
      rw [hw1]
      clear hw1 W1
      go_wp2
      go_ret
      rw [HF.out]
      exact ⟨_, b', ns, rfl, hV.out, (fun x h => by cases h), hNs.out, by rw [HNQ.out]; omega, hBv.out, hA.out⟩
    · have hde : ((d : Int) == 0) = false := beq_eq_false_iff_ne.2 (by omega)
      obtain ⟨xa, xc, hcut, hcr⟩ := HCF.out d hdl
      have HCR := hide hcr
      have HF : Hid (GL = (getsG dg (ps.length - (q + 1)) (b'.drop d)).map (fun r => ((ns ++ [n]) ++ r.1, r.2))) := hide (by
        rw [hGL.out, HST.out hd]
        cases getsG dg (ps.length - (q + 1)) (b'.drop d) with
        | none => rfl
        | some r => simp)
      have hne2 : ¬ bb = pb := fun e => hpne e.symm
      have HPN := hide hpne
      clear hcr HST HSO hGL hd HCF
      generalize b'.drop d = b2 at *
      go_wp2_with fail
      refine HGQ.out.mono ?_
      rintro e W1 ⟨rfl, hw1⟩
      rw [hw1]
      clear hw1 W1
      go_wp2
      go_region
      all_goals
        go_wp2
        go_roundw
        case rel => exact ⟨q + 1, ns ++ [n], b2, xa, xc, by go_num, by omega, by rw [List.length_append, List.length_singleton, HNQ.out], hide (fun W h => HCR.out W (hV.out W h)), hide ((hBv.out.other _ _ (fun e => HPN.out e.symm)).set _), hide (by rw [HSN.out]; exact (hA.out.drew.set _ _).own 0 _), hide (fun m hm => by
          rcases List.mem_append.1 hm with h | h
          · exact hNs.out m h
          · rw [List.mem_singleton.1 h]; exact HDN.out), HF⟩
        case measure => simp [intOf]; omega

end Go.Proofs.YtgpdbboieokldaaGreat
