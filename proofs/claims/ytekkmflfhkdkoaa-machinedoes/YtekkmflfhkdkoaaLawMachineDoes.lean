/- Proved: for every count of processes and all calls the law MachineDoes answers true (and the call leaves all older memory as it was). No condition. -/
import Derived.Test.YtekkmflfhkdkoaaRefMachM
import Derived.Deep.RegionHeld
import Derived.Deep.QuietTactic
import Derived.BigQuiet
import Derived.Deep.DeepCutAuto
import Derived.OpenShut
import Derived.ChangeOld
namespace Go.Proofs.Ytekkmflfhkdkoaa.machineDoes
open Go.ChangeShapes Go.WideShapes Go.ChangeAt Go.RowKit

/-- What no block of the document's machine is. -/
def Kp (B p mc ms : Nat) : Nat → Prop := fun k => k < B ∨ k = p ∨ k = mc ∨ k = ms

/-- Both machines, and the box of a call. -/
structure Two (B : Nat) (w : World) (p mc ms r ob : Nat) (ov : Array Value) (M : Mc) (N : Nat) (C P : List Int) (W : World) : Prop where
  m : MacL W p mc ms M N
  r : Rfm (fun k => Kp B p mc ms k ∨ k = ob) W r C P
  b : Below B w W
  o : Bk 30 W ob ov

/-- What does not change: where the parts lie. -/
structure Lie (B p mc ms ob : Nat) (w : World) : Prop where
  bw : B ≤ w.heap.size
  lp : B ≤ p
  lc : B ≤ mc
  ls : B ≤ ms
  lo : B ≤ ob
  op : ob ≠ p
  oc : ob ≠ mc
  os : ob ≠ ms

theorem Two.drewN {B : Nat} {w : World} {p mc ms r ob : Nat} {ov : Array Value} {M : Mc} {N : Nat} {C P : List Int} {W : World} (h : Two B w p mc ms r ob ov M N C P W) (n : Nat) : Two B w p mc ms r ob ov M N C P (W.drewN n) :=
  ⟨h.m.keep rfl rfl rfl, h.r.only (G := fun _ => False) (Only.refl _ W |>.drewN n) (fun _ _ h => h.elim), below_drewN h.b n, h.o⟩

/-- A call of the landed machine. -/
theorem Two.stepM {B : Nat} {w : World} {p mc ms r ob : Nat} {ov : Array Value} {M M' : Mc} {N N' : Nat} {C P : List Int} {W W' : World} (h : Two B w p mc ms r ob ov M N C P W) (hl : Lie B p mc ms ob w) (hm : MacL W' p mc ms M' N') (ho : Only (fun k => k = p ∨ k = mc ∨ k = ms) W W') :
    Two B w p mc ms r ob ov M' N' C P W' :=
  ⟨hm, h.r.only ho fun k _ hk => .inl (.inr hk), h.b.trans (ho.below (Nat.le_trans hl.bw h.b.size) fun k hk => by have := hl.lp; have := hl.lc; have := hl.ls; omega),
    h.o.only ho (by have := hl.op; have := hl.oc; have := hl.os; omega)⟩

/-- A call of the document's. -/
theorem Two.stepR {B : Nat} {w : World} {p mc ms r ob : Nat} {ov : Array Value} {M : Mc} {N : Nat} {C P C' P' : List Int} {W W' : World} (h : Two B w p mc ms r ob ov M N C P W) (hl : Lie B p mc ms ob w) (hr : Rfm (fun k => Kp B p mc ms k ∨ k = ob) W' r C' P') (ho : Only (fun k => ¬ (Kp B p mc ms k ∨ k = ob)) W W') :
    Two B w p mc ms r ob ov M N C' P' W' :=
  ⟨h.m.keep (ho.block _ h.m.head.lt fun g => g (.inl (.inr (.inl rfl)))) (ho.block _ h.m.cells.lt fun g => g (.inl (.inr (.inr (.inl rfl))))) (ho.block _ h.m.steps.lt fun g => g (.inl (.inr (.inr (.inr rfl))))),
    hr, h.b.trans (ho.below (Nat.le_trans hl.bw h.b.size) fun k hk => by
      rcases Nat.lt_or_ge k B with hlt | hge
      · exact absurd (.inl (.inl hlt)) hk
      · exact hge), h.o.only ho fun g => g (.inr rfl)⟩

theorem Two.kLt {B : Nat} {w : World} {p mc ms r ob : Nat} {ov : Array Value} {M : Mc} {N : Nat} {C P : List Int} {W : World} (h : Two B w p mc ms r ob ov M N C P W) (hl : Lie B p mc ms ob w) : ∀ k, (Kp B p mc ms k ∨ k = ob) → k < W.heap.size := by
  rintro k ((h1 | rfl | rfl | rfl) | rfl)
  · have := hl.bw; have := h.b.size; omega
  · exact h.m.head.lt
  · exact h.m.cells.lt
  · exact h.m.steps.lt
  · exact h.o.lt

theorem drewT {B : Nat} {w : World} {p mc ms r ob : Nat} {ov : Array Value} {M : Mc} {N : Nat} {C P : List Int} {W : World} (h : Two B w p mc ms r ob ov M N C P W) : Two B w p mc ms r ob ov M N C P W.drew := h.drewN 1

/-- What is true of both behind k calls. -/
structure At (procs : Int) (M : Mc) (k : Nat) : Prop where
  procs : M.procs = procs
  len : M.len ≤ 1000 * k

theorem only3 {w w' : World} {p mc ms : Nat} (h : Only (fun k => k = mc ∨ k = ms) w w') : Only (fun k => k = p ∨ k = mc ∨ k = ms) w w' := h.mono fun _ h => .inr h

set_option maxRecDepth 100000 in
set_option maxHeartbeats 8000000 in
theorem walk (procs : Int) (v : Value) (l : List MOp) (w : World) (hprm : (Lit.int .i64 procs).wf = true) (hl : RdM w v l) :
    Calls Try.prog 3 #[.int .i64 procs, v] w fun e w' => e = .returned (.bool true) ∧ Below w.heap.size w w' := by
  have HAW := hide (awakeM_any w)
  have HRL := hide hl
  have HPI := hide (i64_of_wf hprm)
  obtain ⟨la, lc, rfl, hlc, hcm, -⟩ := hl
  have hml : (l.length : Int) ≤ 9223372036854775807 := by unfold maxLen at hcm; omega
  clear hprm hlc hcm
  obtain ⟨B, hB⟩ : ∃ B, B = w.heap.size := ⟨_, rfl⟩
  rw [← hB] at HAW ⊢
  have HBW : Hid (B ≤ w.heap.size) := hide (by omega)
  have HBE := hide hB
  clear hB
  have hS : ∀ {W : World}, Below B w W → B ≤ W.heap.size := fun h => Nat.le_trans HBW.out h.size
  go_enter Try.func3, Try.ntmps3
  go_wp2_with fail
  refine HAW.out.mono ?_
  rintro e W1 ⟨rfl, hb1⟩
  have HB1 := hide hb1
  have HFW := hide (fewM_any procs _ l W1 (HRL.out.below hb1 (by rw [HBE.out]; exact Nat.le_refl _)))
  clear hb1 HAW
  go_wp2_with fail
  refine HFW.out.mono ?_
  rintro e W1' ⟨FB, rfl, hfw, rfl⟩
  have HFP := hide hfw
  have HN := hide (newM_any 0 W1' ⟨by decide, by decide⟩)
  clear hfw HFW
  go_wp2_with fail
  refine HN.out.mono ?_
  rintro e W2 ⟨p0, rfl, -, -, hb2⟩
  have HB2 := hide (HB1.out.trans (hb2.mono (hS HB1.out)))
  clear hb2 HN HB1
  cases FB with
  | false =>
    go_wp2
    go_ret
    exact ⟨rfl, HB2.out⟩
  | true =>
  have HFEW := hide (HFP.out rfl)
  have hlen := HFEW.out.len
  have hprl := HFEW.out.procs
  clear HFP
  have HN := hide (newM_any procs W2 HPI.out)
  go_wp2_with fail
  refine HN.out.mono ?_
  rintro e W3 ⟨p, rfl, hp, ⟨mc, ms, hm3, kp, kc, ks⟩, hb3⟩
  have HB3 := hide (HB2.out.trans (hb3.mono (hS HB2.out)))
  have HLI : Hid (B ≤ p ∧ B ≤ mc ∧ B ≤ ms) := hide ⟨by have := hS HB2.out; omega, by have := hS HB2.out; omega, by have := hS HB2.out; omega⟩
  have HM3 := hide hm3
  have HR := hide (refNewM_any procs W3 (by omega))
  clear hp hb3 hm3 kp kc ks HN HB2
  go_wp2_with fail
  refine HR.out.mono ?_
  rintro e W4 ⟨r, rfl, hr, hb4⟩
  have HB4 := hide (HB3.out.trans (hb4.mono (hS HB3.out)))
  have HM4 := hide (HM3.out.keep (hb4.block _ HM3.out.head.lt) (hb4.block _ HM3.out.cells.lt) (hb4.block _ HM3.out.steps.lt))
  have HR4 : Hid (Rfm (Kp B p mc ms) W4 r (cellsL (newM procs)) (stepsL (newM procs))) := by
    rw [stepsL_new]
    refine hr.weaken fun k hk h => ?_
    rcases h with h | rfl | rfl | rfl
    · have := hS HB3.out; omega
    · exact HM3.out.head.lt
    · exact HM3.out.cells.lt
    · exact HM3.out.steps.lt
  have HA4 : Hid (At procs (newM procs) 0) := hide ⟨rfl, Nat.le_refl _⟩
  clear hr hb4 HR HM3 HB3
  go_wp2
  go_loopw [9] (fun vi wr => ∃ (k : Nat) (M : Mc), vi = .int .i64 (k : Int) ∧ k ≤ l.length ∧ Hid (MacL wr p mc ms M (2 * k)) ∧ Hid (Rfm (Kp B p mc ms) wr r (cellsL M) (stepsL M)) ∧ Hid (Below B w wr) ∧ Hid (At procs M k)) (fun vi _ => l.length - (intOf vi).toNat)
  case atStart => exact ⟨0, _, rfl, Nat.zero_le _, HM4, HR4, HB4, HA4⟩
  case round =>
    clear HM4 HB4 HA4 HR4
    obtain ⟨k, M, rfl, hkl, HM, HR, HB, HAT⟩ := hrel
    by_cases hlt : k < l.length
    case neg =>
      have HLM : Hid (M.len ≤ 200000) := hide (by have := HAT.out.len; omega)
      have HM0 : Hid (MacL wr p mc ms M 400) := hide (HM.out.mono (by omega))
      have hcells : ∀ j : Nat, j < M.len → (cellsL M).getD j 0 = M.c (j : Nat) := fun j hj => by
        rw [← getR_in (by rw [cellsL_length]; exact hj), getR_cells HM.out.ok]
      have HCL := hide hcells
      have HRR := HR
      obtain ⟨LN, hLN⟩ : ∃ LN, LN = M.len := ⟨_, rfl⟩
      have HLN := hide hLN
      have hLNb : (LN : Int) ≤ 200000 := by have := HLM.out; omega
      obtain ⟨ca, cc, cR⟩ := HR.out.headC
      rw [cellsL_length, ← hLN] at cR
      clear hcells HM HAT hLN
      go_wp2
      go_loopw [12] (fun vi wz => ∃ (j : Nat) (M2 : Mc), vi = .int .i64 (j : Int) ∧ j ≤ LN ∧ Hid (MacL wz p mc ms M2 (400 + 2 * j)) ∧ Hid (M2.c = M.c) ∧ Hid (Rfm (Kp B p mc ms) wz r (cellsL M) (stepsL M)) ∧ Hid (Below B w wz)) (fun vi _ => LN - (intOf vi).toNat)
      case atStart => exact ⟨0, M, rfl, Nat.zero_le _, HM0, rfl, HR, HB⟩
      case round =>
        clear HM0 HR HB HRR cR
        obtain ⟨j, M2, rfl, hj, HM, HMC, HR, HB⟩ := hrel
        obtain ⟨ca, cc, cR⟩ := HR.out.headC
        rw [cellsL_length, ← HLN.out] at cR
        by_cases hjl : j < LN
        case neg =>
          go_wp2
          go_ret
          exact ⟨rfl, HB.out⟩
        obtain ⟨X, hX⟩ : ∃ X, X = M.c (j : Nat) := ⟨_, rfl⟩
        have HRD : Hid (∀ W, MacL W p mc ms M2 (400 + 2 * j) → Calls Try.prog 13 #[ptr p, .int .i64 0, .int .i64 (j : Int)] W fun e w' => e = .returned (.int .i64 X) ∧ MacL w' p mc ms (readM M2 0) (400 + 2 * j + 2) ∧ Only (fun k => k = mc ∨ k = ms) W w') := hide fun W h => by
          have h' := read_any h (by omega) 0 (j : Int) ⟨by decide, by decide⟩ ⟨by omega, by omega⟩
          rw [HMC.out, ← hX] at h'
          exact h'
        have HKR : Hid (∃ g cap, ∀ W, Only (fun k => k = p ∨ k = mc ∨ k = ms) wr W → W.cell? ⟨r, 0, none⟩ = some (.slice (some ⟨g, 0, none⟩) LN cap) ∧ W.cell? ⟨g, j, none⟩ = some (.int .i64 X)) := by
          obtain ⟨cv, pv, hr⟩ := HR.out
          obtain ⟨g, cap, hv, hg, hc, -⟩ := hr.c.form (j := j) (by rw [cellsL_length, ← HLN.out]; exact hjl)
          subst hv
          refine ⟨g, cap, fun W ho => ⟨?_, ?_⟩⟩
          · have h0 := ho.block r hr.head.lt fun k => hr.kp (.inr k)
            rw [World.cell?_of_block (a := ⟨r, 0, none⟩) h0]
            have := (hr.head.cell 0 rfl).1
            rw [cellsL_length, ← HLN.out] at this
            exact this
          · have h0 := ho.block g hg fun k => hr.kc g rfl (.inr k)
            rw [World.cell?_of_block (a := ⟨g, j, none⟩) h0, hc, HCL.out j (by rw [← HLN.out]; exact hjl), hX]
        obtain ⟨g, cap, hkr⟩ := HKR.out
        have HKS := hide hkr
        have e0 := (hkr wr (Only.refl _ _)).1
        have HOD : Hid (Only (fun k => k = p ∨ k = mc ∨ k = ms) wr wr.drew) := hide ((Only.refl _ wr).drewN 1)
        have HMD : Hid (MacL wr.drew p mc ms M2 (400 + 2 * j)) := hide (HM.out.keep rfl rfl rfl)
        have HC0 := hide (HRD.out _ HMD.out)
        have HJL := hide hjl
        clear hkr HKR HRD HMD hX cR HM hj
        go_upto_region 30 with fail
        go_cut [177] (fun v wc => v = .bool false ∧ Hid (MacL wc p mc ms (readM M2 0) (400 + 2 * j + 2) ∧ Only (fun k => k = p ∨ k = mc ∨ k = ms) wr wc))
        case first =>
          go_region_held (fun W => W.cell? ⟨r, 0, none⟩ = some (.slice (some ⟨g, 0, none⟩) LN cap) ∧ W.cell? ⟨g, j, none⟩ = some (.int .i64 X))
            (first | (with_reducible exact HKS.out _ HOX.out) | (with_reducible exact HKS.out _ HOD.out))
            (first | (go_at_call 13; refine HC0.out.mono ?_; rintro e wx ⟨rfl, hmx, hox⟩; have HMX := hide hmx; have HOX := hide (HOD.out.trans (only3 (p := p) hox) fun _ _ h => h); clear hmx hox HC0))
          all_goals
            go_wp2_with fail
            go_meet
            exact ⟨by simp, hide ⟨HMX.out, HOX.out⟩⟩
        case rest =>
          obtain ⟨rfl, hw3⟩ := hcut
          have HMX := hide hw3.out.1
          have HOX := hide hw3.out.2
          have HRX := hide (HR.out.only HOX.out fun k _ h => .inr h)
          have HBX := hide (HB.out.trans (HOX.out.below (hS HB.out) fun k hk => by have := HLI.out; omega))
          clear hw3
          go_wp2
          go_roundw
          case rel => exact ⟨j + 1, _, by go_num, by have := HJL.out; omega, HMX, HMC, HRX, HBX⟩
          case measure => have := HJL.out; simp [intOf]; omega
    obtain ⟨x, b, off, hx, hao, ho⟩ := (HRL.out.below HB.out (by rw [HBE.out]; exact Nat.le_refl _)).at hlt
    subst hao
    have HCN := hide (HFEW.out.cells k x hx)
    have c0 := ho.c0
    have c1 := ho.c1
    have c2 := ho.c2
    have c3 := ho.c3
    have c4 := ho.c4
    have HI := hide (And.intro ho.i1 (And.intro ho.i2 (And.intro ho.i3 ho.i4)))
    obtain ⟨K, hK⟩ : ∃ K, K = x.kind := ⟨_, rfl⟩
    obtain ⟨P, hP⟩ : ∃ P, P = x.p := ⟨_, rfl⟩
    obtain ⟨C, hC⟩ : ∃ C, C = x.cell := ⟨_, rfl⟩
    obtain ⟨n, hn⟩ : ∃ n, n = x.n := ⟨_, rfl⟩
    obtain ⟨m, hm⟩ : ∃ m, m = x.m := ⟨_, rfl⟩
    rw [← hP, ← hC, ← hn, ← hm] at HI
    rw [← hK, ← hn] at HCN
    rw [← hK] at c0
    rw [← hP] at c1
    rw [← hC] at c2
    rw [← hn] at c3
    rw [← hm] at c4
    clear hK hP hC hn hm ho hx
    obtain ⟨W1, hW1⟩ : ∃ W1, W1 = wr.alloc (.cells #[.int .i64 K, .int .i64 P, .int .i64 C, .int .i64 n, .int .i64 m] 30) := ⟨_, rfl⟩
    have HLIE : Hid (Lie B p mc ms wr.heap.size w) := hide ⟨HBW.out, HLI.out.1, HLI.out.2.1, HLI.out.2.2, hS HB.out, by have := HM.out.head.lt; omega, by have := HM.out.cells.lt; omega, by have := HM.out.steps.lt; omega⟩
    have HT0 : Hid (Two B w p mc ms r wr.heap.size #[.int .i64 K, .int .i64 P, .int .i64 C, .int .i64 n, .int .i64 m] M (2 * k) (cellsL M) (stepsL M) W1) := by
      rw [hW1]
      refine ⟨HM.out.alloc _, ?_, HB.out.alloc (hS HB.out) _, heap_alloc_new _ _⟩
      refine (HR.out.weaken (K' := fun k => Kp B p mc ms k ∨ k = wr.heap.size) fun k hk h => h.elim id fun h => by omega).only (G := fun _ => False) ((Only.refl _ _).alloc _) fun _ _ h => h.elim
    have HW1 := hide hW1
    have HLT := hide hlt
    have HKC : Hid (∀ W M N C' P', Two B w p mc ms r wr.heap.size #[.int .i64 K, .int .i64 P, .int .i64 C, .int .i64 n, .int .i64 m] M N C' P' W → W.cell? ⟨wr.heap.size, 0, none⟩ = some (.int .i64 K) ∧ W.cell? ⟨wr.heap.size, 1, none⟩ = some (.int .i64 P) ∧ W.cell? ⟨wr.heap.size, 2, none⟩ = some (.int .i64 C) ∧ W.cell? ⟨wr.heap.size, 3, none⟩ = some (.int .i64 n) ∧ W.cell? ⟨wr.heap.size, 4, none⟩ = some (.int .i64 m)) :=
      hide fun W M N C' P' h => ⟨(h.o.cell 0 rfl).1, (h.o.cell 1 rfl).1, (h.o.cell 2 rfl).1, (h.o.cell 3 rfl).1, (h.o.cell 4 rfl).1⟩
    have HML : Hid ((cellsL M).length ≤ 200000 ∧ (stepsL M).length ≤ 100) := hide ⟨by rw [cellsL_length]; have := HAT.out.len; omega, by rw [stepsL_length, HAT.out.procs]; omega⟩
    have HOK := hide HM.out.ok
    clear HM HR hW1 HB
    go_upto_region 13 with fail
    rw [← HW1.out]
    have d0 := (HKC.out _ _ _ _ _ HT0.out).1
    by_cases k0 : K = 0
    case pos =>
      subst k0
      obtain ⟨M2, hM2⟩ : ∃ M2, M2 = cellsM M n := ⟨_, rfl⟩
      have HM2 := hide hM2
      have HAN : Hid (At procs M2 (k + 1)) := hide (by rw [hM2]; exact ⟨by unfold cellsM; split <;> exact HAT.out.procs, by have := HAT.out.len; have := HCN.out rfl; unfold cellsM; split; (show M.len + n.toNat ≤ _; omega); omega⟩)
      obtain ⟨V, hV⟩ : ∃ V, V = (M.len : Int) := ⟨_, rfl⟩
      have HV := hide hV
      clear hV
      clear hM2
      have HA : Hid (∀ W C' P', Two B w p mc ms r wr.heap.size #[.int .i64 0, .int .i64 P, .int .i64 C, .int .i64 n, .int .i64 m] M (2 * k) C' P' W → Calls Try.prog 11 #[ptr p, .int .i64 n] W fun e W' => e = .returned (.int .i64 V) ∧ Two B w p mc ms r wr.heap.size #[.int .i64 0, .int .i64 P, .int .i64 C, .int .i64 n, .int .i64 m] M2 (2 * k + 2) C' P' W') := hide fun W C' P' h => (cellsM_any h.m n (by have := HAT.out.len; have := HCN.out rfl; omega)).mono fun e W' ⟨he, hm, ho⟩ => ⟨by rw [HV.out]; exact he, h.stepM HLIE.out (by rw [HM2.out]; exact hm.mono (by omega)) (ho.mono fun _ h => .inl h)⟩
      have HB : Hid (∀ W M0 N0, Two B w p mc ms r wr.heap.size #[.int .i64 0, .int .i64 P, .int .i64 C, .int .i64 n, .int .i64 m] M0 N0 (cellsL M) (stepsL M) W → Calls Try.prog 12 #[ptr r, .int .i64 n] W fun e W' => e = .returned (.int .i64 V) ∧ Two B w p mc ms r wr.heap.size #[.int .i64 0, .int .i64 P, .int .i64 C, .int .i64 n, .int .i64 m] M0 N0 (cellsL M2) (stepsL M2) W') := hide fun W M0 N0 h => (refCellsM_any h.r (h.kLt HLIE.out) n (HCN.out rfl) (by have := HML.out.1; omega)).mono fun e W' ⟨he, hr, ho⟩ => ⟨by rw [HV.out]; rw [cellsL_length] at he; exact he, h.stepR HLIE.out (by
        rw [HM2.out]
        rw [← cellsL_more HOK.out (HCN.out rfl), stepsL_cells]; exact hr) ho⟩
      obtain ⟨LN, hLN⟩ : ∃ LN, LN = M2.len := ⟨_, rfl⟩
      obtain ⟨SN, hSN⟩ : ∃ SN, SN = M2.s P := ⟨_, rfl⟩
      have HLE := hide hLN
      have HSE := hide hSN
      clear hLN hSN
      have HT0d := hide (drewT HT0.out)
      go_upto_region 15 with fail
      go_region_held (fun W => W.cell? ⟨wr.heap.size, 0, none⟩ = some (.int .i64 0) ∧ W.cell? ⟨wr.heap.size, 1, none⟩ = some (.int .i64 P) ∧ W.cell? ⟨wr.heap.size, 2, none⟩ = some (.int .i64 C) ∧ W.cell? ⟨wr.heap.size, 3, none⟩ = some (.int .i64 n) ∧ W.cell? ⟨wr.heap.size, 4, none⟩ = some (.int .i64 m))
        (first | (with_reducible exact HKC.out _ _ _ _ _ HTE.out) | (with_reducible exact HKC.out _ _ _ _ _ HTA.out) | (with_reducible exact HKC.out _ _ _ _ _ HTB.out) | (with_reducible exact HKC.out _ _ _ _ _ HT0d.out))
        (first
          | (go_at_call 11; first | (refine (HA.out _ _ _ HTB.out).mono ?_; rintro e We ⟨rfl, ha⟩; have HTE := hide ha; clear ha HTB) | (refine (HA.out _ _ _ HT0d.out).mono ?_; rintro e Wa ⟨rfl, ha⟩; have HTA := hide ha; clear ha HT0d))
          | (go_at_call 12; first | (refine (HB.out _ _ _ HTA.out).mono ?_; rintro e We ⟨rfl, ha⟩; have HTE := hide ha; clear ha HTA) | (refine (HB.out _ _ _ HT0d.out).mono ?_; rintro e Wb ⟨rfl, ha⟩; have HTB := hide ha; clear ha HT0d)))
      all_goals
        clear HA HB HT0
        have HLN : Hid (∀ q, Calls Try.prog 21 #[ptr p] (We.drewN q) fun e w' => e = .returned (.int .i64 (LN : Int)) ∧ w' = We.drewN q) := hide fun q => by
          have h := lenM_any (HTE.out.drewN q).m
          rw [← HLE.out] at h
          exact h
        have HSN : Hid (∀ q, Calls Try.prog 22 #[ptr p, .int .i64 P] (We.drewN q) fun e w' => e = .returned (.int .i64 SN) ∧ w' = We.drewN q) := hide fun q => by
          have h := stepsM_any (HTE.out.drewN q).m P HI.out.1
          rw [← HSE.out] at h
          exact h
        have HRN : Hid (∀ q, Calls Try.prog 23 #[ptr r, .int .i64 P] (We.drewN q) fun e w' => e = .returned (.int .i64 SN) ∧ w' = We.drewN q) := hide fun q => by
          have h := refStepsM_any (HTE.out.drewN q).r P
          rw [getR_steps HTE.out.m.ok, ← HSE.out] at h
          exact h
        have c1 := (HKC.out _ _ _ _ _ HTE.out).2.1
        obtain ⟨ca, cc, cR⟩ := HTE.out.r.headC
        rw [cellsL_length, ← HLE.out] at cR
        go_upto_region 25 with fail
        go_cut [157] (fun v wc => v = .bool false ∧ Hid (∃ q, wc = We.drewN q))
        case first =>
          go_quiet ((first | (go_at_call 21; exact Calls.quiet_of_same (HLN.out _)) | (go_at_call 22; exact Calls.quiet_of_same (HSN.out _)) | (go_at_call 23; exact Calls.quiet_of_same (HRN.out _))))
          go_wp2_with fail
          go_meet
          exact ⟨rfl, hide ⟨_, rfl⟩⟩
        case rest =>
          obtain ⟨rfl, hw3⟩ := hcut
          obtain ⟨q3, rfl⟩ := hw3.out
          have HTF := hide (HTE.out.drewN q3)
          have HRF : Hid (Rfm (Kp B p mc ms) (We.drewN q3) r (cellsL M2) (stepsL M2)) := hide (HTF.out.r.weaken fun k _ h => .inl h)
          clear HLN HSN HRN c1 cR HTE
          go_wp2
          go_roundw
          case rel => exact ⟨k + 1, M2, by go_num, by have := HLT.out; omega, HTF.out.m.mono (by omega), HRF, HTF.out.b, HAN⟩
          case measure => have := HLT.out; simp [intOf]; omega
    have e0 : (K == 0) = false := by simp [k0]
    clear k0
    by_cases k1 : K = 1
    case pos =>
      subst k1
      obtain ⟨M2, hM2⟩ : ∃ M2, M2 = readM M P := ⟨_, rfl⟩
      have HM2 := hide hM2
      have HAN : Hid (At procs M2 (k + 1)) := hide (by rw [hM2]; exact ⟨HAT.out.procs, by have := HAT.out.len; show M.len ≤ _; omega⟩)
      obtain ⟨V, hV⟩ : ∃ V, V = M.c C := ⟨_, rfl⟩
      have HV := hide hV
      clear hV
      clear hM2
      have HA : Hid (∀ W C' P', Two B w p mc ms r wr.heap.size #[.int .i64 1, .int .i64 P, .int .i64 C, .int .i64 n, .int .i64 m] M (2 * k) C' P' W → Calls Try.prog 13 #[ptr p, .int .i64 P, .int .i64 C] W fun e W' => e = .returned (.int .i64 V) ∧ Two B w p mc ms r wr.heap.size #[.int .i64 1, .int .i64 P, .int .i64 C, .int .i64 n, .int .i64 m] M2 (2 * k + 2) C' P' W') := hide fun W C' P' h => (read_any h.m (by omega) P C HI.out.1 HI.out.2.1).mono fun e W' ⟨he, hm, ho⟩ => ⟨by rw [HV.out]; exact he, h.stepM HLIE.out (by rw [HM2.out]; exact hm) (only3 ho)⟩
      have HB : Hid (∀ W M0 N0, Two B w p mc ms r wr.heap.size #[.int .i64 1, .int .i64 P, .int .i64 C, .int .i64 n, .int .i64 m] M0 N0 (cellsL M) (stepsL M) W → Calls Try.prog 14 #[ptr r, .int .i64 P, .int .i64 C] W fun e W' => e = .returned (.int .i64 V) ∧ Two B w p mc ms r wr.heap.size #[.int .i64 1, .int .i64 P, .int .i64 C, .int .i64 n, .int .i64 m] M0 N0 (cellsL M2) (stepsL M2) W') := hide fun W M0 N0 h => (refReadM_any h.r P C (by have := HML.out.1; omega)).mono fun e W' ⟨he, hr, ho⟩ => ⟨by rw [HV.out]; rw [getR_cells HOK.out] at he; exact he, h.stepR HLIE.out (by
        rw [HM2.out]
        rw [stepR_steps HOK.out (by omega)] at hr; exact hr) ho⟩
      obtain ⟨LN, hLN⟩ : ∃ LN, LN = M2.len := ⟨_, rfl⟩
      obtain ⟨SN, hSN⟩ : ∃ SN, SN = M2.s P := ⟨_, rfl⟩
      have HLE := hide hLN
      have HSE := hide hSN
      clear hLN hSN
      have HT0d := hide (drewT HT0.out)
      go_upto_region 17 with fail
      go_region_held (fun W => W.cell? ⟨wr.heap.size, 0, none⟩ = some (.int .i64 1) ∧ W.cell? ⟨wr.heap.size, 1, none⟩ = some (.int .i64 P) ∧ W.cell? ⟨wr.heap.size, 2, none⟩ = some (.int .i64 C) ∧ W.cell? ⟨wr.heap.size, 3, none⟩ = some (.int .i64 n) ∧ W.cell? ⟨wr.heap.size, 4, none⟩ = some (.int .i64 m))
        (first | (with_reducible exact HKC.out _ _ _ _ _ HTE.out) | (with_reducible exact HKC.out _ _ _ _ _ HTA.out) | (with_reducible exact HKC.out _ _ _ _ _ HTB.out) | (with_reducible exact HKC.out _ _ _ _ _ HT0d.out))
        (first
          | (go_at_call 13; first | (refine (HA.out _ _ _ HTB.out).mono ?_; rintro e We ⟨rfl, ha⟩; have HTE := hide ha; clear ha HTB) | (refine (HA.out _ _ _ HT0d.out).mono ?_; rintro e Wa ⟨rfl, ha⟩; have HTA := hide ha; clear ha HT0d))
          | (go_at_call 14; first | (refine (HB.out _ _ _ HTA.out).mono ?_; rintro e We ⟨rfl, ha⟩; have HTE := hide ha; clear ha HTA) | (refine (HB.out _ _ _ HT0d.out).mono ?_; rintro e Wb ⟨rfl, ha⟩; have HTB := hide ha; clear ha HT0d)))
      all_goals
        clear HA HB HT0
        have HLN : Hid (∀ q, Calls Try.prog 21 #[ptr p] (We.drewN q) fun e w' => e = .returned (.int .i64 (LN : Int)) ∧ w' = We.drewN q) := hide fun q => by
          have h := lenM_any (HTE.out.drewN q).m
          rw [← HLE.out] at h
          exact h
        have HSN : Hid (∀ q, Calls Try.prog 22 #[ptr p, .int .i64 P] (We.drewN q) fun e w' => e = .returned (.int .i64 SN) ∧ w' = We.drewN q) := hide fun q => by
          have h := stepsM_any (HTE.out.drewN q).m P HI.out.1
          rw [← HSE.out] at h
          exact h
        have HRN : Hid (∀ q, Calls Try.prog 23 #[ptr r, .int .i64 P] (We.drewN q) fun e w' => e = .returned (.int .i64 SN) ∧ w' = We.drewN q) := hide fun q => by
          have h := refStepsM_any (HTE.out.drewN q).r P
          rw [getR_steps HTE.out.m.ok, ← HSE.out] at h
          exact h
        have c1 := (HKC.out _ _ _ _ _ HTE.out).2.1
        obtain ⟨ca, cc, cR⟩ := HTE.out.r.headC
        rw [cellsL_length, ← HLE.out] at cR
        go_upto_region 25 with fail
        go_cut [157] (fun v wc => v = .bool false ∧ Hid (∃ q, wc = We.drewN q))
        case first =>
          go_quiet ((first | (go_at_call 21; exact Calls.quiet_of_same (HLN.out _)) | (go_at_call 22; exact Calls.quiet_of_same (HSN.out _)) | (go_at_call 23; exact Calls.quiet_of_same (HRN.out _))))
          go_wp2_with fail
          go_meet
          exact ⟨rfl, hide ⟨_, rfl⟩⟩
        case rest =>
          obtain ⟨rfl, hw3⟩ := hcut
          obtain ⟨q3, rfl⟩ := hw3.out
          have HTF := hide (HTE.out.drewN q3)
          have HRF : Hid (Rfm (Kp B p mc ms) (We.drewN q3) r (cellsL M2) (stepsL M2)) := hide (HTF.out.r.weaken fun k _ h => .inl h)
          clear HLN HSN HRN c1 cR HTE
          go_wp2
          go_roundw
          case rel => exact ⟨k + 1, M2, by go_num, by have := HLT.out; omega, HTF.out.m.mono (by omega), HRF, HTF.out.b, HAN⟩
          case measure => have := HLT.out; simp [intOf]; omega
    have e1 : (K == 1) = false := by simp [k1]
    clear k1
    by_cases k2 : K = 2
    case pos =>
      subst k2
      obtain ⟨M2, hM2⟩ : ∃ M2, M2 = writeM M P C n := ⟨_, rfl⟩
      have HM2 := hide hM2
      have HAN : Hid (At procs M2 (k + 1)) := hide (by rw [hM2]; exact ⟨HAT.out.procs, by have := HAT.out.len; show M.len ≤ _; omega⟩)
      clear hM2
      have HA : Hid (∀ W C' P', Two B w p mc ms r wr.heap.size #[.int .i64 2, .int .i64 P, .int .i64 C, .int .i64 n, .int .i64 m] M (2 * k) C' P' W → Calls Try.prog 15 #[ptr p, .int .i64 P, .int .i64 C, .int .i64 n] W fun e W' => e = .returned (.tuple #[]) ∧ Two B w p mc ms r wr.heap.size #[.int .i64 2, .int .i64 P, .int .i64 C, .int .i64 n, .int .i64 m] M2 (2 * k + 2) C' P' W') := hide fun W C' P' h => (write_any h.m (by omega) P C n HI.out.1 HI.out.2.1 HI.out.2.2.1).mono fun e W' ⟨he, hm, ho⟩ => ⟨he, h.stepM HLIE.out (by rw [HM2.out]; exact hm) (only3 ho)⟩
      have HB : Hid (∀ W M0 N0, Two B w p mc ms r wr.heap.size #[.int .i64 2, .int .i64 P, .int .i64 C, .int .i64 n, .int .i64 m] M0 N0 (cellsL M) (stepsL M) W → Calls Try.prog 16 #[ptr r, .int .i64 P, .int .i64 C, .int .i64 n] W fun e W' => e = .returned (.tuple #[]) ∧ Two B w p mc ms r wr.heap.size #[.int .i64 2, .int .i64 P, .int .i64 C, .int .i64 n, .int .i64 m] M0 N0 (cellsL M2) (stepsL M2) W') := hide fun W M0 N0 h => (refWriteM_any h.r P C n HI.out.2.2.1 (by have := HML.out.1; omega)).mono fun e W' ⟨he, hr, ho⟩ => ⟨he, h.stepR HLIE.out (by
        rw [HM2.out]
        rw [stepR_steps HOK.out (by omega), putR_cells M P C fun _ => n] at hr; exact hr) ho⟩
      obtain ⟨LN, hLN⟩ : ∃ LN, LN = M2.len := ⟨_, rfl⟩
      obtain ⟨SN, hSN⟩ : ∃ SN, SN = M2.s P := ⟨_, rfl⟩
      have HLE := hide hLN
      have HSE := hide hSN
      clear hLN hSN
      have HT0d := hide HT0.out
      have d1 := (HKC.out _ _ _ _ _ HT0.out).2.1
      have d2 := (HKC.out _ _ _ _ _ HT0.out).2.2.1
      have d3 := (HKC.out _ _ _ _ _ HT0.out).2.2.2.1
      go_wp2_with fail
      refine (HA.out _ _ _ HT0d.out).mono ?_
      rintro e Wa ⟨rfl, ha⟩
      have HTA := hide ha
      have f1 := (HKC.out _ _ _ _ _ HTA.out).2.1
      have f2 := (HKC.out _ _ _ _ _ HTA.out).2.2.1
      have f3 := (HKC.out _ _ _ _ _ HTA.out).2.2.2.1
      clear ha HT0d d0 d1 d2 d3
      go_wp2_with fail
      refine (HB.out _ _ _ HTA.out).mono ?_
      rintro e We ⟨rfl, ha⟩
      have HTE := hide ha
      clear ha HTA f1 f2 f3 HA HB HT0
      have HLN : Hid (∀ q, Calls Try.prog 21 #[ptr p] (We.drewN q) fun e w' => e = .returned (.int .i64 (LN : Int)) ∧ w' = We.drewN q) := hide fun q => by
        have h := lenM_any (HTE.out.drewN q).m
        rw [← HLE.out] at h
        exact h
      have HSN : Hid (∀ q, Calls Try.prog 22 #[ptr p, .int .i64 P] (We.drewN q) fun e w' => e = .returned (.int .i64 SN) ∧ w' = We.drewN q) := hide fun q => by
        have h := stepsM_any (HTE.out.drewN q).m P HI.out.1
        rw [← HSE.out] at h
        exact h
      have HRN : Hid (∀ q, Calls Try.prog 23 #[ptr r, .int .i64 P] (We.drewN q) fun e w' => e = .returned (.int .i64 SN) ∧ w' = We.drewN q) := hide fun q => by
        have h := refStepsM_any (HTE.out.drewN q).r P
        rw [getR_steps HTE.out.m.ok, ← HSE.out] at h
        exact h
      have c1 := (HKC.out _ _ _ _ _ HTE.out).2.1
      obtain ⟨ca, cc, cR⟩ := HTE.out.r.headC
      rw [cellsL_length, ← HLE.out] at cR
      go_upto_region 25 with fail
      go_cut [157] (fun v wc => v = .bool false ∧ Hid (∃ q, wc = We.drewN q))
      case first =>
        go_quiet ((first | (go_at_call 21; exact Calls.quiet_of_same (HLN.out _)) | (go_at_call 22; exact Calls.quiet_of_same (HSN.out _)) | (go_at_call 23; exact Calls.quiet_of_same (HRN.out _))))
        go_wp2_with fail
        go_meet
        exact ⟨rfl, hide ⟨_, rfl⟩⟩
      case rest =>
        obtain ⟨rfl, hw3⟩ := hcut
        obtain ⟨q3, rfl⟩ := hw3.out
        have HTF := hide (HTE.out.drewN q3)
        have HRF : Hid (Rfm (Kp B p mc ms) (We.drewN q3) r (cellsL M2) (stepsL M2)) := hide (HTF.out.r.weaken fun k _ h => .inl h)
        clear HLN HSN HRN c1 cR HTE
        go_wp2
        go_roundw
        case rel => exact ⟨k + 1, M2, by go_num, by have := HLT.out; omega, HTF.out.m.mono (by omega), HRF, HTF.out.b, HAN⟩
        case measure => have := HLT.out; simp [intOf]; omega
    have e2 : (K == 2) = false := by simp [k2]
    clear k2
    by_cases k3 : K = 3
    case pos =>
      subst k3
      obtain ⟨M2, hM2⟩ : ∃ M2, M2 = swapM M P C n m := ⟨_, rfl⟩
      have HM2 := hide hM2
      have HAN : Hid (At procs M2 (k + 1)) := hide (by rw [hM2]; exact ⟨HAT.out.procs, by have := HAT.out.len; show M.len ≤ _; omega⟩)
      obtain ⟨V, hV⟩ : ∃ V, V = (inM C (M.len : Int) && decide (M.c C = n)) := ⟨_, rfl⟩
      have HV := hide hV
      clear hV
      clear hM2
      have HA : Hid (∀ W C' P', Two B w p mc ms r wr.heap.size #[.int .i64 3, .int .i64 P, .int .i64 C, .int .i64 n, .int .i64 m] M (2 * k) C' P' W → Calls Try.prog 17 #[ptr p, .int .i64 P, .int .i64 C, .int .i64 n, .int .i64 m] W fun e W' => e = .returned (.bool V) ∧ Two B w p mc ms r wr.heap.size #[.int .i64 3, .int .i64 P, .int .i64 C, .int .i64 n, .int .i64 m] M2 (2 * k + 2) C' P' W') := hide fun W C' P' h => (swap_any h.m (by omega) P C n m HI.out.1 HI.out.2.1 HI.out.2.2.2).mono fun e W' ⟨he, hm, ho⟩ => ⟨by rw [HV.out]; exact he, h.stepM HLIE.out (by rw [HM2.out]; exact hm) (only3 ho)⟩
      have HB : Hid (∀ W M0 N0, Two B w p mc ms r wr.heap.size #[.int .i64 3, .int .i64 P, .int .i64 C, .int .i64 n, .int .i64 m] M0 N0 (cellsL M) (stepsL M) W → Calls Try.prog 18 #[ptr r, .int .i64 P, .int .i64 C, .int .i64 n, .int .i64 m] W fun e W' => e = .returned (.bool V) ∧ Two B w p mc ms r wr.heap.size #[.int .i64 3, .int .i64 P, .int .i64 C, .int .i64 n, .int .i64 m] M0 N0 (cellsL M2) (stepsL M2) W') := hide fun W M0 N0 h => (refSwapM_any h.r P C n m HI.out.2.2.2 (by have := HML.out.1; omega)).mono fun e W' ⟨he, hr, ho⟩ => ⟨by rw [HV.out]; rw [getR_cells HOK.out, cellsL_length] at he; exact he, h.stepR HLIE.out (by
        rw [HM2.out]
        rw [stepR_steps HOK.out (by omega), getR_cells HOK.out, putR_cells M P C fun x => if x = n then m else x] at hr; exact hr) ho⟩
      obtain ⟨LN, hLN⟩ : ∃ LN, LN = M2.len := ⟨_, rfl⟩
      obtain ⟨SN, hSN⟩ : ∃ SN, SN = M2.s P := ⟨_, rfl⟩
      have HLE := hide hLN
      have HSE := hide hSN
      clear hLN hSN
      have HT0d := hide (drewT HT0.out)
      go_upto_region 22 with fail
      go_region_held (fun W => W.cell? ⟨wr.heap.size, 0, none⟩ = some (.int .i64 3) ∧ W.cell? ⟨wr.heap.size, 1, none⟩ = some (.int .i64 P) ∧ W.cell? ⟨wr.heap.size, 2, none⟩ = some (.int .i64 C) ∧ W.cell? ⟨wr.heap.size, 3, none⟩ = some (.int .i64 n) ∧ W.cell? ⟨wr.heap.size, 4, none⟩ = some (.int .i64 m))
        (first | (with_reducible exact HKC.out _ _ _ _ _ HTE.out) | (with_reducible exact HKC.out _ _ _ _ _ HTA.out) | (with_reducible exact HKC.out _ _ _ _ _ HTB.out) | (with_reducible exact HKC.out _ _ _ _ _ HT0d.out))
        (first
          | (go_at_call 17; first | (refine (HA.out _ _ _ HTB.out).mono ?_; rintro e We ⟨rfl, ha⟩; have HTE := hide ha; clear ha HTB) | (refine (HA.out _ _ _ HT0d.out).mono ?_; rintro e Wa ⟨rfl, ha⟩; have HTA := hide ha; clear ha HT0d))
          | (go_at_call 18; first | (refine (HB.out _ _ _ HTA.out).mono ?_; rintro e We ⟨rfl, ha⟩; have HTE := hide ha; clear ha HTA) | (refine (HB.out _ _ _ HT0d.out).mono ?_; rintro e Wb ⟨rfl, ha⟩; have HTB := hide ha; clear ha HT0d)))
      all_goals
        clear HA HB HT0
        have HLN : Hid (∀ q, Calls Try.prog 21 #[ptr p] (We.drewN q) fun e w' => e = .returned (.int .i64 (LN : Int)) ∧ w' = We.drewN q) := hide fun q => by
          have h := lenM_any (HTE.out.drewN q).m
          rw [← HLE.out] at h
          exact h
        have HSN : Hid (∀ q, Calls Try.prog 22 #[ptr p, .int .i64 P] (We.drewN q) fun e w' => e = .returned (.int .i64 SN) ∧ w' = We.drewN q) := hide fun q => by
          have h := stepsM_any (HTE.out.drewN q).m P HI.out.1
          rw [← HSE.out] at h
          exact h
        have HRN : Hid (∀ q, Calls Try.prog 23 #[ptr r, .int .i64 P] (We.drewN q) fun e w' => e = .returned (.int .i64 SN) ∧ w' = We.drewN q) := hide fun q => by
          have h := refStepsM_any (HTE.out.drewN q).r P
          rw [getR_steps HTE.out.m.ok, ← HSE.out] at h
          exact h
        have c1 := (HKC.out _ _ _ _ _ HTE.out).2.1
        obtain ⟨ca, cc, cR⟩ := HTE.out.r.headC
        rw [cellsL_length, ← HLE.out] at cR
        go_upto_region 25 with fail
        go_cut [157] (fun v wc => v = .bool false ∧ Hid (∃ q, wc = We.drewN q))
        case first =>
          go_quiet ((first | (go_at_call 21; exact Calls.quiet_of_same (HLN.out _)) | (go_at_call 22; exact Calls.quiet_of_same (HSN.out _)) | (go_at_call 23; exact Calls.quiet_of_same (HRN.out _))))
          go_wp2_with fail
          go_meet
          exact ⟨rfl, hide ⟨_, rfl⟩⟩
        case rest =>
          obtain ⟨rfl, hw3⟩ := hcut
          obtain ⟨q3, rfl⟩ := hw3.out
          have HTF := hide (HTE.out.drewN q3)
          have HRF : Hid (Rfm (Kp B p mc ms) (We.drewN q3) r (cellsL M2) (stepsL M2)) := hide (HTF.out.r.weaken fun k _ h => .inl h)
          clear HLN HSN HRN c1 cR HTE
          go_wp2
          go_roundw
          case rel => exact ⟨k + 1, M2, by go_num, by have := HLT.out; omega, HTF.out.m.mono (by omega), HRF, HTF.out.b, HAN⟩
          case measure => have := HLT.out; simp [intOf]; omega
    have e3 : (K == 3) = false := by simp [k3]
    clear k3
    by_cases k4 : K = 4
    case pos =>
      subst k4
      obtain ⟨M2, hM2⟩ : ∃ M2, M2 = addM M P C n := ⟨_, rfl⟩
      have HM2 := hide hM2
      have HAN : Hid (At procs M2 (k + 1)) := hide (by rw [hM2]; exact ⟨HAT.out.procs, by have := HAT.out.len; show M.len ≤ _; omega⟩)
      obtain ⟨V, hV⟩ : ∃ V, V = M.c C := ⟨_, rfl⟩
      have HV := hide hV
      clear hV
      clear hM2
      have HA : Hid (∀ W C' P', Two B w p mc ms r wr.heap.size #[.int .i64 4, .int .i64 P, .int .i64 C, .int .i64 n, .int .i64 m] M (2 * k) C' P' W → Calls Try.prog 19 #[ptr p, .int .i64 P, .int .i64 C, .int .i64 n] W fun e W' => e = .returned (.int .i64 V) ∧ Two B w p mc ms r wr.heap.size #[.int .i64 4, .int .i64 P, .int .i64 C, .int .i64 n, .int .i64 m] M2 (2 * k + 2) C' P' W') := hide fun W C' P' h => (add_any h.m (by omega) P C n HI.out.1 HI.out.2.1).mono fun e W' ⟨he, hm, ho⟩ => ⟨by rw [HV.out]; exact he, h.stepM HLIE.out (by rw [HM2.out]; exact hm) (only3 ho)⟩
      have HB : Hid (∀ W M0 N0, Two B w p mc ms r wr.heap.size #[.int .i64 4, .int .i64 P, .int .i64 C, .int .i64 n, .int .i64 m] M0 N0 (cellsL M) (stepsL M) W → Calls Try.prog 20 #[ptr r, .int .i64 P, .int .i64 C, .int .i64 n] W fun e W' => e = .returned (.int .i64 V) ∧ Two B w p mc ms r wr.heap.size #[.int .i64 4, .int .i64 P, .int .i64 C, .int .i64 n, .int .i64 m] M0 N0 (cellsL M2) (stepsL M2) W') := hide fun W M0 N0 h => (refAddM_any h.r P C n (by have := HML.out.1; omega)).mono fun e W' ⟨he, hr, ho⟩ => ⟨by rw [HV.out]; rw [getR_cells HOK.out] at he; exact he, h.stepR HLIE.out (by
        rw [HM2.out]
        rw [stepR_steps HOK.out (by omega), getR_cells HOK.out, putR_cells M P C fun x => wrap64 (x + n)] at hr; exact hr) ho⟩
      obtain ⟨LN, hLN⟩ : ∃ LN, LN = M2.len := ⟨_, rfl⟩
      obtain ⟨SN, hSN⟩ : ∃ SN, SN = M2.s P := ⟨_, rfl⟩
      have HLE := hide hLN
      have HSE := hide hSN
      clear hLN hSN
      have HT0d := hide (drewT HT0.out)
      go_upto_region 24 with fail
      go_region_held (fun W => W.cell? ⟨wr.heap.size, 0, none⟩ = some (.int .i64 4) ∧ W.cell? ⟨wr.heap.size, 1, none⟩ = some (.int .i64 P) ∧ W.cell? ⟨wr.heap.size, 2, none⟩ = some (.int .i64 C) ∧ W.cell? ⟨wr.heap.size, 3, none⟩ = some (.int .i64 n) ∧ W.cell? ⟨wr.heap.size, 4, none⟩ = some (.int .i64 m))
        (first | (with_reducible exact HKC.out _ _ _ _ _ HTE.out) | (with_reducible exact HKC.out _ _ _ _ _ HTA.out) | (with_reducible exact HKC.out _ _ _ _ _ HTB.out) | (with_reducible exact HKC.out _ _ _ _ _ HT0d.out))
        (first
          | (go_at_call 19; first | (refine (HA.out _ _ _ HTB.out).mono ?_; rintro e We ⟨rfl, ha⟩; have HTE := hide ha; clear ha HTB) | (refine (HA.out _ _ _ HT0d.out).mono ?_; rintro e Wa ⟨rfl, ha⟩; have HTA := hide ha; clear ha HT0d))
          | (go_at_call 20; first | (refine (HB.out _ _ _ HTA.out).mono ?_; rintro e We ⟨rfl, ha⟩; have HTE := hide ha; clear ha HTA) | (refine (HB.out _ _ _ HT0d.out).mono ?_; rintro e Wb ⟨rfl, ha⟩; have HTB := hide ha; clear ha HT0d)))
      all_goals
        clear HA HB HT0
        have HLN : Hid (∀ q, Calls Try.prog 21 #[ptr p] (We.drewN q) fun e w' => e = .returned (.int .i64 (LN : Int)) ∧ w' = We.drewN q) := hide fun q => by
          have h := lenM_any (HTE.out.drewN q).m
          rw [← HLE.out] at h
          exact h
        have HSN : Hid (∀ q, Calls Try.prog 22 #[ptr p, .int .i64 P] (We.drewN q) fun e w' => e = .returned (.int .i64 SN) ∧ w' = We.drewN q) := hide fun q => by
          have h := stepsM_any (HTE.out.drewN q).m P HI.out.1
          rw [← HSE.out] at h
          exact h
        have HRN : Hid (∀ q, Calls Try.prog 23 #[ptr r, .int .i64 P] (We.drewN q) fun e w' => e = .returned (.int .i64 SN) ∧ w' = We.drewN q) := hide fun q => by
          have h := refStepsM_any (HTE.out.drewN q).r P
          rw [getR_steps HTE.out.m.ok, ← HSE.out] at h
          exact h
        have c1 := (HKC.out _ _ _ _ _ HTE.out).2.1
        obtain ⟨ca, cc, cR⟩ := HTE.out.r.headC
        rw [cellsL_length, ← HLE.out] at cR
        go_upto_region 25 with fail
        go_cut [157] (fun v wc => v = .bool false ∧ Hid (∃ q, wc = We.drewN q))
        case first =>
          go_quiet ((first | (go_at_call 21; exact Calls.quiet_of_same (HLN.out _)) | (go_at_call 22; exact Calls.quiet_of_same (HSN.out _)) | (go_at_call 23; exact Calls.quiet_of_same (HRN.out _))))
          go_wp2_with fail
          go_meet
          exact ⟨rfl, hide ⟨_, rfl⟩⟩
        case rest =>
          obtain ⟨rfl, hw3⟩ := hcut
          obtain ⟨q3, rfl⟩ := hw3.out
          have HTF := hide (HTE.out.drewN q3)
          have HRF : Hid (Rfm (Kp B p mc ms) (We.drewN q3) r (cellsL M2) (stepsL M2)) := hide (HTF.out.r.weaken fun k _ h => .inl h)
          clear HLN HSN HRN c1 cR HTE
          go_wp2
          go_roundw
          case rel => exact ⟨k + 1, M2, by go_num, by have := HLT.out; omega, HTF.out.m.mono (by omega), HRF, HTF.out.b, HAN⟩
          case measure => have := HLT.out; simp [intOf]; omega
    have e4 : (K == 4) = false := by simp [k4]
    clear k4
    obtain ⟨M2, hM2⟩ : ∃ M2, M2 = M := ⟨_, rfl⟩
    have HAN : Hid (At procs M2 (k + 1)) := hide (by rw [hM2]; exact ⟨HAT.out.procs, by have := HAT.out.len; omega⟩)
    rw [← hM2] at HT0
    obtain ⟨We, hWe⟩ : ∃ We, We = W1 := ⟨_, rfl⟩
    rw [← hWe] at HT0 d0 ⊢
    have HTE := hide HT0.out
    obtain ⟨LN, hLN⟩ : ∃ LN, LN = M2.len := ⟨_, rfl⟩
    obtain ⟨SN, hSN⟩ : ∃ SN, SN = M2.s P := ⟨_, rfl⟩
    have HLE := hide hLN
    have HSE := hide hSN
    clear hLN hSN hM2 hWe HT0
    have HLN : Hid (∀ q, Calls Try.prog 21 #[ptr p] (We.drewN q) fun e w' => e = .returned (.int .i64 (LN : Int)) ∧ w' = We.drewN q) := hide fun q => by
      have h := lenM_any (HTE.out.drewN q).m
      rw [← HLE.out] at h
      exact h
    have HSN : Hid (∀ q, Calls Try.prog 22 #[ptr p, .int .i64 P] (We.drewN q) fun e w' => e = .returned (.int .i64 SN) ∧ w' = We.drewN q) := hide fun q => by
      have h := stepsM_any (HTE.out.drewN q).m P HI.out.1
      rw [← HSE.out] at h
      exact h
    have HRN : Hid (∀ q, Calls Try.prog 23 #[ptr r, .int .i64 P] (We.drewN q) fun e w' => e = .returned (.int .i64 SN) ∧ w' = We.drewN q) := hide fun q => by
      have h := refStepsM_any (HTE.out.drewN q).r P
      rw [getR_steps HTE.out.m.ok, ← HSE.out] at h
      exact h
    have c1 := (HKC.out _ _ _ _ _ HTE.out).2.1
    obtain ⟨ca, cc, cR⟩ := HTE.out.r.headC
    rw [cellsL_length, ← HLE.out] at cR
    go_upto_region 25 with fail
    go_cut [157] (fun v wc => v = .bool false ∧ Hid (∃ q, wc = We.drewN q))
    case first =>
      go_quiet ((first | (go_at_call 21; exact Calls.quiet_of_same (HLN.out _)) | (go_at_call 22; exact Calls.quiet_of_same (HSN.out _)) | (go_at_call 23; exact Calls.quiet_of_same (HRN.out _))))
      go_wp2_with fail
      go_meet
      exact ⟨rfl, hide ⟨_, rfl⟩⟩
    case rest =>
      obtain ⟨rfl, hw3⟩ := hcut
      obtain ⟨q3, rfl⟩ := hw3.out
      have HTF := hide (HTE.out.drewN q3)
      have HRF : Hid (Rfm (Kp B p mc ms) (We.drewN q3) r (cellsL M2) (stepsL M2)) := hide (HTF.out.r.weaken fun k _ h => .inl h)
      clear HLN HSN HRN c1 cR HTE
      go_wp2
      go_roundw
      case rel => exact ⟨k + 1, M2, by go_num, by have := HLT.out; omega, HTF.out.m.mono (by omega), HRF, HTF.out.b, HAN⟩
      case measure => have := HLT.out; simp [intOf]; omega

theorem own : ownKnob Try.prog.godebug = none := by kernel_rfl
theorem laidOut : laidOutB Try.prog = true := by kernel_rfl

set_option linter.unusedVariables false in
set_option maxRecDepth 100000 in
theorem lifted (os : Os) (started : os.Started) (H : Type) (enc : TypeId × Value → H) :
    ReturnsInHanded {} Try.checked os 3 .any (Rows.machineDoesSpec.pre6 enc Try.prog Try.f3 Rows.machineDoesRow.domain false) (Rows.machineDoesSpec.post enc Try.prog Try.f3 false true false false) := by
  refine returnsInHanded_of_change (C := Try.checked) own started (by kernel_rfl) Try.func3
    (ChangeSpec.witness6 (enc := enc) (C := Try.checked) false ⟨#[], #[.int .i64 0, .slice none 0 0], []⟩ 8 (by kernel_rfl) (by kernel_rfl) (by kernel_rfl) (by kernel_rfl)) ?_
  intro W base args ds gs before hval0 hW hcnd _
  have hval : ∀ (j : Nat) t v, Try.f3.params[j]? = some t → args[j]? = some v → Value.okWide Try.prog W .any base t v := hval0
  have hW' := hW
  obtain ⟨p, q, hA0, hV, rfl, hfz, hnd⟩ := hW
  have hA : DataW.TrodAll enc Try.prog W 0 (fun _ => true) true Try.f3.params.toList args.toList ds p := hA0
  rw [Try.params3] at hA hval
  obtain ⟨v0, vs0, d0, ds0, p0, q0, hargs, rfl, rfl, h0, r0⟩ := trodAll_cons hA
  obtain ⟨v1, vs1, d1, ds1, p1, q1, rfl, rfl, rfl, h1, r1⟩ := trodAll_cons r0
  obtain ⟨rfl, rfl, rfl⟩ := trodAll_nil r1
  obtain rfl : args = #[v0, v1] := by cases args; simp_all
  obtain ⟨rfl, rfl⟩ := trodVars_none hV
  obtain ⟨a0, rfl, rfl, rfl, w0⟩ := open_int Try.underlying3 (hval 0 3 v0 rfl rfl) h0
  obtain ⟨a1, len1, cap1, rfl⟩ := okWide_slice Try.underlying22 (hval 1 22 v1 rfl rfl)
  have k1 := h1
  have lt1 : ∀ x ∈ p1, x.block < W.heap.size := by obtain ⟨m, hm⟩ := k1; exact DataW.trod_lt m _ _ _ hm
  obtain ⟨l1, w1⟩ : ∃ l, RdM W (.slice a1 len1 cap1) l := by
    obtain ⟨fuel, hf⟩ := h1
    obtain ⟨v, l, hcs, hr⟩ := open_mops hf
    simp [Value.cells] at hcs
    subst hcs
    exact ⟨l, hr⟩
  clear hA0 hval0
  refine (walk a0 _ l1 W w0 w1).mono fun e W' ⟨he, bel⟩ => ?_
  subst he
  exact ⟨_, rfl, _, _, _, [], _, [], hW', trodAll_mk1 (shut_bool Try.underlying4 _), (trodAll_cons_mk (shut_int Try.underlying3 w0) (trodAll_cons_mk (Below.trod laidOut (by kernel_rfl) (of_decide_eq_true (by kernel_rfl)) k1 bel lt1) trodAll_mk0)), rfl, bel.frame _, fun h => by cases h⟩

theorem over : Rows.machineDoesRow.holds Try.pinned (OpenSpec.ofChange Rows.machineDoesSpec) :=
  OpenClaim.holds_of_wide 3 Try.f3 rfl rfl rfl rfl rfl rfl rfl ⟨rfl, rfl, rfl, rfl, rfl⟩ rfl rfl rfl rfl rfl (by kernel_rfl) Try.func3 (by kernel_rfl)
    (of_decide_eq_true (by kernel_rfl)) (by unfold Func.isWrapper; first | (rw [if_pos (by decide +kernel)]; kernel_rfl) | (rw [if_neg (by decide +kernel)]; exact ⟨rfl, rfl⟩))
    (fun os started H enc _ => lifted os started H enc)

end Go.Proofs.Ytekkmflfhkdkoaa.machineDoes
namespace Go.Proofs.Ytekkmflfhkdkoaa

theorem machineDoes_holds : Rows.MachineDoesSaid := machineDoes.over

end Go.Proofs.Ytekkmflfhkdkoaa
