/- Contracts of delta: putAll, sealNumber; append of bytes that tells where they lie then. -/
import Derived.Test.YtgpdbboieokldaaGreatPack3
import Derived.Test.YtgpdbboieokldaaGreatPack4
import Derived.Test.YtgpdbboieokldaaGreatPack5
import Derived.Maps.AppendAt
namespace Go.Proofs.YtgpdbboieokldaaGreat
open Go.RowKit

theorem run_append_rdm (w : World) (ty : TypeId) (B : Nat) (v : Value) (l0 : List UInt8) (hown : Own w B v l0) (vx : Value) (l : List UInt8) (hr : Rd w vx l)
    (hlim : l0.length + l.length ≤ 70368744177664) (hbase : B ≤ w.heap.size) :
    ∃ v' w', (Builtin.append_ #[26, 26] ty #[v, vx]).run Tryz.prog w = .ok v' w' ∧ Own w' B v' (l0 ++ l) ∧ Mv w w' v v' := by
  obtain ⟨i0, hi, hz0, hz1, hz2⟩ := info_parts info8
  obtain ⟨ao, cap, rfl, hlc, hcm, hn0, hao⟩ := hr
  cases ao with
  | none =>
    have hc := hn0 rfl
    subst hc
    have hl : l = [] := List.eq_nil_of_length_eq_zero (by omega)
    subst hl
    have hrun := run_append_owned_none (P := Tryz.prog) w B 26 ty 5 i0 1 Tryz.underlying26 hi v l0.length (Lib.byteCells l0) hown
    exact ⟨v, w, hrun, by rw [List.append_nil]; exact hown, Mv.refl w v⟩
  | some a =>
    obtain ⟨v', w', hrun, ho, hg, _, hat⟩ := run_append_own_at (P := Tryz.prog) w B 26 ty 5 i0 (.int .u8 0) 1 1 Tryz.underlying26 hi hz0 hz1 hz2 rfl (by decide) v l0.length (Lib.byteCells l0) hown a l.length cap (Lib.byteCells l)
      (by rw [byteCells_length, Nat.mul_one]) (Rd.cells hao a rfl) (byteCells_one l) (by unfold maxLen; omega) (by omega) hbase
    exact ⟨v', w', hrun, Own.mk' ho (by simp) (by simp [Lib.byteCells]), Mv.app hg rfl (hat.imp id (fun h => ⟨_, h, Nat.le_refl _⟩))⟩

theorem wpList_append_rdm (w : World) {ops : Array Oper} {rest : List Oper} {o : Oper} {a : Act} {Q : Exit → Act → World → Prop} (hgd : o.guard = none) (s x : Operand)
    (ho : o.op = .call { callee := .builtin .append, args := #[s, x], argTypes := #[26, 26] })
    (B : Nat) (v : Value) (l0 : List UInt8) (hs : a.eval s = v) (hown : Own w B v l0) (vx : Value) (l : List UInt8) (hx : a.eval x = vx) (hr : Rd w vx l)
    (hlim : l0.length + l.length ≤ 70368744177664) (hbase : B ≤ w.heap.size)
    (h : ∀ v' w', Own w' B v' (l0 ++ l) → Mv w w' v v' → wpList Tryz.prog ops Q rest (a.put o.dst v') w') : wpList Tryz.prog ops Q (o :: rest) a w :=
  wpList_plain hgd fun _ hK => by
    obtain ⟨v', w', hrun, h2, h3⟩ := run_append_rdm w o.type B v l0 hown vx l hr hlim hbase
    unfold Oper.wp execOp
    simp only [ho, resolve, invoke, builtin, Sem.run_bind, Sem.run_pure, Result.andThen_ok, List.map_toArray, List.map_cons, List.map_nil, hs, hx, hrun]
    exact hK _ _ (h v' w' h2 h3)

theorem Mv.belowB {w w' : World} {v v' : Value} (h : Mv w w' v v') {B : Nat} {l : List UInt8} (ho : Own w B v l) (hB : B ≤ w.heap.size) : Below B w w' :=
  ⟨h.grown.os, h.grown.tape, h.grown.output, h.size, fun k hk => h.grown.block k (by omega) (fun e => by have := (World.ownsRow.lt ho k e.symm).1; omega)⟩

/-- What a putter puts, number by number. -/
def putsL (f : Int → List UInt8) (ns : List Int) : List UInt8 := ns.flatMap f

theorem putsL_snoc (f : Int → List UInt8) {ns : List Int} {k : Nat} (h : k < ns.length) : putsL f (ns.take (k + 1)) = putsL f (ns.take k) ++ f (ns.getD k 0) := by
  have e : ns.take (k + 1) = ns.take k ++ [ns.getD k 0] := by
    rw [List.take_add_one]
    simp [List.getD, h]
  unfold putsL
  rw [e, List.flatMap_append]
  simp

theorem putsL_len {f : Int → List UInt8} : ∀ {ns : List Int}, (∀ n ∈ ns, (f n).length ≤ 10) → (putsL f ns).length ≤ 10 * ns.length
  | [], _ => by simp [putsL]
  | n :: ns, h => by
    have ih := putsL_len (f := f) (ns := ns) (fun m hm => h m (by simp [hm]))
    have h0 := h n (by simp)
    unfold putsL at ih ⊢
    rw [List.flatMap_cons, List.length_append, List.length_cons]
    omega

set_option maxRecDepth 100000 in
set_option maxHeartbeats 2000000 in
theorem putAll_any (g : Nat) (f : Int → List UInt8) (B : Nat) (v : Value) (l : List UInt8) (vn : Value) (ns : List Int) (w : World) (ho : Own w B v l) (hB : B ≤ w.heap.size) (hn : RdI w vn ns)
    (hap : ns = [] ∨ ∀ k, vn.ownBlock = some k → v.ownBlock ≠ some k) (hlim : l.length + 10 * ns.length ≤ 1000000)
    (eg : ∀ args W, (callFunc g args).run Tryz.prog W = .ok (.enter g args) W)
    (hf : ∀ n ∈ ns, ∀ W, Calls Tryz.prog g #[.slice none 0 0, .int .i64 n] W fun e w' => ∃ v', e = .returned v' ∧ Own w' W.heap.size v' (f n) ∧ Below W.heap.size W w') (hlen : ∀ n ∈ ns, (f n).length ≤ 10) :
    Calls Tryz.prog 46 #[v, .func (.func g) #[] #[], vn] w fun e w' => ∃ v', e = .returned v' ∧ Own w' B v' (l ++ putsL f ns) ∧ Mv w w' v v' := by
  have HF := hide hf
  have HO := hide ho
  have HLN : Hid (∀ k, (putsL f (ns.take k)).length ≤ 10 * ns.length) := hide (fun k => by
    have h := putsL_len (f := f) (ns := ns.take k) (fun n hn => hlen n (List.mem_of_mem_take hn))
    rw [List.length_take] at h
    omega)
  have HL1 := hide hlen
  have HSN := hide (fun k h => putsL_snoc f (ns := ns) (k := k) h)
  have HEN : Hid (∀ k, ns.length ≤ k → putsL f (ns.take k) = putsL f ns) := hide (fun k h => by rw [List.take_of_length_le h])
  obtain ⟨va, vc, hv⟩ : ∃ a c, v = .slice a l.length c := by obtain ⟨a, c, h, -⟩ := ho.rd; exact ⟨a, c, h⟩
  subst hv
  obtain ⟨na, nc, rfl, hnc, hcm, -, -, hao⟩ := hn
  have HAO := hide hao
  have HAP := hide hap
  have hmi : (ns.length : Int) ≤ 1000000 := by omega
  obtain ⟨PL, hPL⟩ : ∃ PL, PL = l ++ putsL f ns := ⟨_, rfl⟩
  rw [← hPL]
  have HPL := hide hPL
  clear hf hlen hap hao ho hPL hcm hnc
  go_enter Tryz.func46, Tryz.ntmps46
  go_wp2
  go_loopw [0, 11] (fun vb vi wr => ∃ (k : Nat) (P : List UInt8), vi = .int .i64 (k : Int) ∧ k ≤ ns.length ∧ Hid (P = l ++ putsL f (ns.take k)) ∧ Hid (Own wr B vb P) ∧ Hid (Mv w wr (.slice va l.length vc) vb)) (fun _ vi _ => ns.length - (intOf vi).toNat)
  case atStart => exact ⟨0, l, rfl, Nat.zero_le _, hide (by simp [putsL]), HO, hide (Mv.refl _ _)⟩
  case round =>
    obtain ⟨k, P, rfl, hk, hP, hO, hM⟩ := hrel
    obtain ⟨ba, bc, hv⟩ : ∃ a c, u0 = .slice a P.length c := by obtain ⟨a, c, h, -⟩ := hO.out.rd; exact ⟨a, c, h⟩
    subst hv
    by_cases hlt : k < ns.length
    case neg =>
      have hni : ¬ (k : Int) < (ns.length : Int) := by omega
      have HE : Hid (PL = P) := hide (by rw [HPL.out, hP.out, HEN.out k (by omega)])
      go_wp2
      go_ret
      rw [HE.out]
      exact ⟨_, rfl, hO.out, hM.out⟩
    have hki : (k : Int) < (ns.length : Int) := by omega
    rcases HAO.out with h0 | ⟨c, off, rfl, hc⟩
    · rw [h0] at hlt; simp at hlt
    have hcw := hc k hlt
    have hapk : ∀ e : Nat, (Value.slice (some ⟨c, off, none⟩) ns.length nc).ownBlock = some e → (Value.slice va l.length vc).ownBlock ≠ some e := by
      rcases HAP.out with h0 | h
      · rw [h0] at hlt; simp at hlt
      · exact h
    have c0 : wr.cell? ⟨c, off + k, none⟩ = some (.int .i64 (ns.getD k 0)) := (World.cell?_of_block (a := ⟨c, off + k, none⟩) (hM.out.grown.block c (World.block_lt_of_cell? _ _ hcw) (fun e => hapk c rfl e.symm))).trans hcw
    have hmem : ns.getD k 0 ∈ ns := by simp [List.getD, hlt]
    have HC := hide (HF.out _ hmem wr)
    have hfl := HL1.out _ hmem
    have HPN : Hid (P ++ f (ns.getD k 0) = l ++ putsL f (ns.take (k + 1))) := hide (by rw [hP.out, HSN.out k hlt, List.append_assoc])
    have hPl : P.length ≤ 1000000 := by
      have := HLN.out k
      rw [hP.out, List.length_append]
      omega
    generalize ns.getD k 0 = n at *
    generalize f n = F at *
    have hsz : B ≤ wr.heap.size := Nat.le_trans hB hM.out.size
    clear hc hcw hmem hapk HF HL1 HLN HSN HEN HAO HAP
    go_wp2_with fail
    refine HC.out.mono ?_
    rintro x W1 ⟨v1, rfl, ho1, hb1⟩
    obtain ⟨a1, c1, hv⟩ : ∃ a c, v1 = .slice a F.length c := by obtain ⟨a, c, h, -⟩ := ho1.rd; exact ⟨a, c, h⟩
    subst hv
    have HR1 := hide ho1.rd
    have HO1 := hide (hO.out.below hb1 (Nat.le_refl _))
    have HM1 := hide (hM.out.trans (Mv.ofBelow hb1 _))
    have hs1 : B ≤ W1.heap.size := Nat.le_trans hsz hb1.size
    clear ho1 hb1 HC
    go_wp2_with (at_builtin; refine wpList_append_rdm _ rfl _ _ rfl B _ P rfl HO1.out _ F rfl HR1.out (by omega) hs1 ?_)
    intro v2 W2 ho2 hm2
    have HO2 := hide ho2
    have HM2 := hide (HM1.out.trans hm2)
    clear ho2 hm2
    go_wp2
    go_roundw
    case rel => exact ⟨k + 1, P ++ F, by go_num, by omega, HPN, HO2, HM2⟩
    case measure => simp [intOf]; omega

set_option maxRecDepth 100000 in
set_option maxHeartbeats 1000000 in
theorem sealNumber_any (v : Value) (d : Delt) (w : World) (hd : DlV w v d) (h0 : 0 ≤ d.eng) (h1 : d.eng ≤ 2) :
    Calls Tryz.prog 48 #[v] w fun x w' => x = .returned (.int .i64 ((sealD d : Nat) : Int)) ∧ Below w.heap.size w w' := by
  obtain ⟨ma, mc, ta, tc, rfl, -, -⟩ := hd.shape
  have HB0 : Hid (∀ X, Below w.heap.size w (w.alloc X)) := fun X => (Below.refl _ _).alloc (Nat.le_refl _) X
  obtain ⟨S, hS⟩ : ∃ S : Int, S = ((sealD d : Nat) : Int) := ⟨_, rfl⟩
  rw [← hS]
  unfold sealD at hS
  clear hd
  obtain ⟨fr, up, ah, bh, mid, sh, en, tab⟩ := d
  dsimp only at *
  cases sh with
  | false =>
    have HS : Hid (S = 0) := hide (by rw [hS]; rfl)
    clear hS
    go_enter Tryz.func48, Tryz.ntmps48
    go_wp2
    go_ret
    rw [HS.out]
    exact ⟨rfl, HB0.out _⟩
  | true =>
    have HS : Hid (S = en + 1) := hide (by rw [hS, if_pos rfl]; omega)
    clear hS
    go_enter Tryz.func48, Tryz.ntmps48
    go_wp2
    go_ret
    rw [HS.out]
    exact ⟨rfl, HB0.out _⟩

/-- Numbers, just built. -/
theorem rdI_built (W : World) (N : Nat) (hN : N = W.heap.size) (l : List Int) (hl : ∀ n ∈ l, I64 n) (hlen : l.length ≤ 1000) (cs : Array Value) (hcs : cs = (intCells l).toArray) (k : Nat) (hk : k = l.length) :
    RdI (W.alloc (.cells cs 3)) (.slice (some ⟨N, 0, none⟩) k k) l := by
  subst hN hcs hk
  refine ⟨some ⟨W.heap.size, 0, none⟩, l.length, rfl, Nat.le_refl _, by unfold maxLen; omega, (fun e => by cases e), hl, .inr ⟨W.heap.size, 0, rfl, fun j hj => ?_⟩⟩
  rw [Nat.zero_add, cell_of_row _ W.heap.size j _ 3 (0, 0) (heap_alloc_new W _), List.getElem?_toArray]
  exact intCells_get l j hj

end Go.Proofs.YtgpdbboieokldaaGreat
