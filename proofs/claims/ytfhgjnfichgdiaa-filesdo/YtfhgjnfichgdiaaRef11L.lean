/- Contracts of ferrymanref11: Append. -/
import Derived.Test.YtfhgjnfichgdiaaRef11J
import Derived.Test.YtfhgjnfichgdiaaStepCall
import Derived.Deep.RegionHeld2
namespace Go.Proofs.Ytfhgjnfichgdiaa
open Go.RowKit

/-- append of bytes as one step of a region that draws its order. -/
theorem step_append_rdl {ops : Array Oper} {o : Oper} {a : Act} {w : World} {K : Act → World → Prop} {Q : Exit → Act → World → Prop} {E : Prop}
    (hg : o.guard = none) (s x : Operand) (hop : o.op = Op.call { callee := Callee.builtin Builtin.append, args := #[s, x], argTypes := #[30, 30] })
    (v : Value) (l0 : List UInt8) (hs : a.eval s = v) (hown : Own w 0 v l0) (vx : Value) (l : List UInt8) (hx : a.eval x = vx) (hr : Rd w vx l) (hlim : l0.length + l.length ≤ 70368744177664)
    (hK : ∀ v' w', Own w' 0 v' (l0 ++ l) → w.grownBy w' v.ownBlock → (v'.ownBlock = v.ownBlock ∨ v'.ownBlock = some w.heap.size) → K (a.put o.dst v') w') :
    if Region.wanted o (yielded ops a.tmps) = true then Oper.wp Try.prog o a w K Q else E := by
  have hw : Region.wanted o (yielded ops a.tmps) = true := by simp [Region.wanted, hg]
  rw [if_pos hw]
  obtain ⟨v', w', hrun, h2, h3, h4⟩ := run_append_rdl w o.type v l0 hown vx l hr hlim
  unfold Oper.wp execOp
  simp only [hop, resolve, invoke, builtin, Sem.run_bind, Sem.run_pure, Result.andThen_ok, List.map_toArray, List.map_cons, List.map_nil, hs, hx, hrun]
  exact hK v' w' h2 h3 h4

set_option maxRecDepth 100000 in
set_option maxHeartbeats 4000000 in
theorem refFull_any {F : Nat → Prop} {p : Nat} {d : Dk} {N T : Nat} (n : Int) (vb : Value) (b : List UInt8) (w : World) (h : Rsk F w p d N T) (hr : Rd w vb b) (hN : N ≤ 900000) (hT : T ≤ 1000000000) (hbl : b.length ≤ 1000000000) (h0 : d.power ≠ 0) (hmn : mayN n = true) (hroom : (usedD d : Int) + b.length > d.room) :
    Calls Try.prog 19 #[ptr p, .int .i64 n, vb] w fun e w' => RDid F w p d 10 (N + 2) (T + b.length) e w' := by
  have HD := hide h
  obtain ⟨L, h, hp, hle, hok, hbn, hrm, hpw⟩ := h
  obtain ⟨ao, cap, rfl, -⟩ := id hr
  obtain ⟨U, hU⟩ : ∃ U, U = usedD d := ⟨_, rfl⟩
  have hUb : U ≤ 900000 * 1000000000 := by
    rw [hU]
    exact Nat.le_trans (usedD_le hok hbn.names hbn.bytes) (Nat.mul_le_mul hN hT)
  have HCE : Hid (∀ W, Below w.heap.size w W → Calls Try.prog 13 #[ptr p] W fun e w' => ∃ v', e = .returned v' ∧ (v' = .int .i64 (U : Int) ∧ Below W.heap.size W w')) := hide (fun W hW => (refUsed_any W (h.below hW) hok hbn hN hT).mono (by
    rintro e w' ⟨rfl, hb⟩
    exact ⟨_, rfl, by rw [hU], hb⟩))
  have HM := hide (refMay_any n w)
  rw [hmn] at HM
  have H := hide h
  have HK : Hid (∀ W, Below w.heap.size w W → W.cell? ⟨p, 0, none⟩ = some (.int .i64 d.room)) := hide (fun W hW => (H.out.below hW).cells.1.1)
  have HE1 : Hid (∀ args w, (callFunc 13 args).run Try.prog w = .ok (.enter 13 args) w) := hide (enters_of Try.func13 (by kernel_rfl) rfl)
  have HS0 : Hid (Below w.heap.size w w.drew) := hide ((Below.refl w.heap.size w).drew)
  obtain ⟨⟨c0, -, -, -, c4, -⟩, -⟩ := h.cells
  rw [hp.1, decide_eq_false h0] at c4
  rw [← hU] at hroom
  obtain ⟨R, hR⟩ : ∃ R, R = d.room := ⟨_, rfl⟩
  rw [← hR] at hroom HK c0
  have hdr : decide ((U : Int) + (b.length : Int) > R) = true := decide_eq_true hroom
  obtain ⟨hr1, hr2⟩ : I64 R := by rw [hR]; exact hrm
  clear h hok hbn hrm hpw hp hle hr hU hR h0 hmn
  go_enter Try.func19, Try.ntmps19
  go_wp2_with fail
  refine HM.out.mono ?_
  rintro e w' ⟨rfl, rfl⟩
  go_upto_region 6 with fail
  clear c0 c4
  go_cut [26] (fun v wc => v = .bool true ∧ Hid (Below w'.heap.size w' wc))
  case first =>
    go_region_held2 (fun W => W.cell? ⟨p, 0, none⟩ = some (.int .i64 R))
      (first | (with_reducible exact HK.out _ HS0.out) | (with_reducible exact HK.out _ hbk1))
      (first | ((with_reducible refine step_call 13 _ _ rfl rfl #[ptr p] (by simp [Act.eval]) HE1.out (HCE.out (w'.drew) HS0.out) ?_); rintro v1 W5 ⟨rfl, hb⟩; have hbk1 : Below w'.heap.size w' W5 := HS0.out.trans (hb.mono HS0.out.size); clear hb))
    all_goals
      go_wp2_with fail
      go_meet
      exact ⟨by
        have hw : IntKind.i64.wrap ((U : Int) + (b.length : Int)) = (U : Int) + (b.length : Int) := by rw [IntKind.wrap_i64]; omega
        simp [hw]; omega, hide hbk1⟩
  case rest =>
    obtain ⟨rfl, HB⟩ := hcut
    go_wp2
    go_ret
    exact RDid.same HD.out HB.out (by omega) (by omega)

end Go.Proofs.Ytfhgjnfichgdiaa
