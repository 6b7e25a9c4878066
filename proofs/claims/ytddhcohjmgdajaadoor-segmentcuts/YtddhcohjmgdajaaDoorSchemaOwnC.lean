/- Contracts of schema: getValue, passOver. -/
import Derived.Test.YtddhcohjmgdajaaDoorSchemaOwnA
import Derived.Test.YtddhcohjmgdajaaDoorCodecGet
namespace Go.Proofs.YtddhcohjmgdajaaDoor
open Go.RowKit

theorem But.ofBelow {R T : Nat} {w w' : World} (h : Below w.heap.size w w') : But R T w w' := ⟨h.os, h.tape, h.output, h.size, fun k hk _ _ => h.block k hk⟩

/-- A record's box. -/
def Bx7 (w : World) (b : Nat) (r : Rec) : Prop := Br w b #[.int .i64 r.idx, .int .i64 r.proc, .int .i64 r.seq, .int .i64 r.op.code, .int .i64 r.op.a, .int .i64 r.op.b, .int .i64 r.resp]

set_option maxRecDepth 100000 in
set_option maxHeartbeats 2000000 in
theorem getValue_any (v : Value) (l : List UInt8) (f : Nat) (hf1 : 1 ≤ f) (hf5 : f ≤ 5) (r : Rec) (rb : Nat) (w : World) (hr : Rd w v l) (hx : Bx7 w rb r) (hlim : l.length ≤ 1000000) :
    Calls Tryd.prog 110 #[v, .int .i64 (f : Int), .pointer (some ⟨rb, 0, none⟩)] w fun e w' => e = .returned (.int .i64 ((valueF r f l).2 : Nat)) ∧ Bx7 w' rb (valueF r f l).1 ∧ But rb rb w w' := by
  have HG := hide (get_any v l w hr)
  have HS := hide (getSigned_any v l w hr)
  have HO := hide (getOp_any v l w hr hlim)
  unfold Gotten opV at HO
  obtain ⟨ao, cap, rfl, -⟩ := hr
  have HX := hide hx
  unfold Bx7 at hx
  have hlt := hx.lt
  have hc : f = 1 ∨ f = 2 ∨ f = 3 ∨ f = 4 ∨ f = 5 := by omega
  clear hf1 hf5 hlim
  unfold valueF
  generalize (dec62 l).1 = n at *
  generalize (dec62 l).2 = k at *
  generalize zag (dec64 l).1 = x at *
  generalize (dec64 l).2 = m at *
  generalize (getOpL l).1 = o at *
  generalize (getOpL l).2 = j at *
  obtain ⟨q0, f0⟩ := hx.cell 0
  obtain ⟨q1, f1⟩ := hx.cell 1
  obtain ⟨q2, f2⟩ := hx.cell 2
  obtain ⟨q3, f3⟩ := hx.cell 3
  obtain ⟨q4, f4⟩ := hx.cell 4
  obtain ⟨q5, f5⟩ := hx.cell 5
  obtain ⟨q6, f6⟩ := hx.cell 6
  clear hx
  rcases hc with rfl | rfl | rfl | rfl | rfl
  · show Calls Tryd.prog _ _ w fun e w' => e = .returned (.int .i64 (k : Int)) ∧ Bx7 w' rb { r with idx := (n : Int) } ∧ But rb rb w w'
    go_enter Tryd.func110, Tryd.ntmps110
    go_wp2_with fail
    refine HG.out.mono ?_
    rintro e W1 ⟨rfl, rfl⟩
    go_wp2
    go_ret
    refine ⟨rfl, ?_, (But.refl _ _ _).set _ _ (.inl rfl) _⟩
    have h := heap_setCell_same _ rb 0 _ _ (.int .i64 (n : Int)) HX.out
    unfold Bx7 Br
    simpa using h
  · show Calls Tryd.prog _ _ w fun e w' => e = .returned (.int .i64 (k : Int)) ∧ Bx7 w' rb { r with proc := (n : Int) } ∧ But rb rb w w'
    go_enter Tryd.func110, Tryd.ntmps110
    go_wp2_with fail
    refine HG.out.mono ?_
    rintro e W1 ⟨rfl, rfl⟩
    go_wp2
    go_ret
    refine ⟨rfl, ?_, (But.refl _ _ _).set _ _ (.inl rfl) _⟩
    have h := heap_setCell_same _ rb 1 _ _ (.int .i64 (n : Int)) HX.out
    unfold Bx7 Br
    simpa using h
  · show Calls Tryd.prog _ _ w fun e w' => e = .returned (.int .i64 (k : Int)) ∧ Bx7 w' rb { r with seq := (n : Int) } ∧ But rb rb w w'
    go_enter Tryd.func110, Tryd.ntmps110
    go_wp2_with fail
    refine HG.out.mono ?_
    rintro e W1 ⟨rfl, rfl⟩
    go_wp2
    go_ret
    refine ⟨rfl, ?_, (But.refl _ _ _).set _ _ (.inl rfl) _⟩
    have h := heap_setCell_same _ rb 2 _ _ (.int .i64 (n : Int)) HX.out
    unfold Bx7 Br
    simpa using h
  · show Calls Tryd.prog _ _ w fun e w' => e = .returned (.int .i64 (j : Int)) ∧ Bx7 w' rb { r with op := o } ∧ But rb rb w w'
    clear q0 q1 q2 q3 q4 q5 q6 f0 f1 f2 f3 f4 f5 f6
    go_enter Tryd.func110, Tryd.ntmps110
    go_wp2_with fail
    refine HO.out.mono ?_
    rintro e W1 ⟨rfl, hb1⟩
    have hx1 : Br W1 rb _ := HX.out.below hb1 (Nat.le_refl _)
    have HX1 := hide hx1
    have HB1 := hide hb1
    obtain ⟨q3, f3⟩ := hx1.cell 3
    obtain ⟨q4, f4⟩ := hx1.cell 4
    obtain ⟨q5, f5⟩ := hx1.cell 5
    have hlt1 := hx1.lt
    clear hx1 hb1
    go_wp2
    go_ret
    refine ⟨rfl, ?_, (((But.ofBelow HB1.out).set _ _ (.inl rfl) _).set _ _ (.inl rfl) _).set _ _ (.inl rfl) _⟩
    have h3 := heap_setCell_same _ rb 3 _ _ (.int .i64 o.code) HX1.out
    have h4 := heap_setCell_same _ rb 4 _ _ (.int .i64 o.a) h3
    have h5 := heap_setCell_same _ rb 5 _ _ (.int .i64 o.b) h4
    unfold Bx7 Br
    simpa using h5
  · show Calls Tryd.prog _ _ w fun e w' => e = .returned (.int .i64 (m : Int)) ∧ Bx7 w' rb { r with resp := x } ∧ But rb rb w w'
    go_enter Tryd.func110, Tryd.ntmps110
    go_wp2_with fail
    refine HS.out.mono ?_
    rintro e W1 ⟨rfl, rfl⟩
    go_wp2
    go_ret
    refine ⟨rfl, ?_, (But.refl _ _ _).set _ _ (.inl rfl) _⟩
    have h := heap_setCell_same _ rb 6 _ _ (.int .i64 x) HX.out
    unfold Bx7 Br
    simpa using h

/-- How many bytes a field to be passed over takes; 0: it is none. -/
def passN (l : List UInt8) : Nat := if (dec62 l).2 = 0 ∨ l.length < (dec62 l).2 + (dec62 l).1 then 0 else (dec62 l).2 + (dec62 l).1

set_option maxRecDepth 100000 in
set_option maxHeartbeats 2000000 in
theorem passOver_any (v : Value) (l : List UInt8) (w : World) (hr : Rd w v l) (hlim : l.length ≤ 1000000) :
    Calls Tryd.prog 112 #[v] w fun e w' => e = .returned (.int .i64 (passN l : Int)) ∧ w' = w := by
  have HG := hide (get_any v l w hr)
  have hle := dec62_le l
  obtain ⟨ao, cap, rfl, -⟩ := hr
  unfold passN
  generalize (dec62 l).1 = n at *
  generalize (dec62 l).2 = k at *
  by_cases hk : k = 0
  · have HE : Hid ((if k = 0 ∨ l.length < k + n then 0 else k + n) = 0) := hide (if_pos (.inl hk))
    rw [HE.out]
    clear HE
    subst hk
    go_enter Tryd.func112, Tryd.ntmps112
    go_wp2_with fail
    refine HG.out.mono ?_
    rintro e W1 ⟨rfl, rfl⟩
    go_wp2
    go_ret
    exact ⟨rfl, rfl⟩
  have ek : ((k : Int) == 0) = false := beq_eq_false_iff_ne.2 (by omega)
  by_cases hn : l.length < k + n
  · have hn' : (l.length : Int) - (k : Int) < (n : Int) := by omega
    have HE : Hid ((if k = 0 ∨ l.length < k + n then 0 else k + n) = 0) := hide (if_pos (.inr hn))
    rw [HE.out]
    clear HE hn hk
    go_enter Tryd.func112, Tryd.ntmps112
    go_wp2_with fail
    refine HG.out.mono ?_
    rintro e W1 ⟨rfl, rfl⟩
    go_wp2
    go_ret
    exact ⟨rfl, rfl⟩
  · have hn' : ¬ (l.length : Int) - (k : Int) < (n : Int) := by omega
    have HE : Hid ((if k = 0 ∨ l.length < k + n then 0 else k + n) = k + n) := hide (if_neg (by omega))
    rw [HE.out]
    have hkn : (k : Int) + (n : Int) ≤ 1000000 := by omega
    clear HE hn hk
    go_enter Tryd.func112, Tryd.ntmps112
    go_wp2_with fail
    refine HG.out.mono ?_
    rintro e W1 ⟨rfl, rfl⟩
    go_wp2
    go_ret
    exact ⟨by go_num, rfl⟩

end Go.Proofs.YtddhcohjmgdajaaDoor
