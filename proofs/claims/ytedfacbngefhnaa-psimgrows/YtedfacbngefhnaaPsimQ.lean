/- The engine that copies: New. -/
import Derived.Test.YtedfacbngefhnaaPsimP
namespace Go.Proofs.Ytedfacbngefhnaa
open Go.RowKit Go.Maps

/-- A process that has done nothing. -/
def pc0 (l p : Nat) : Array Value := pcC l p .nilFunc (.slice none 0 0) (.slice none 0 0) (.slice none 0 0) newPc

theorem ptrsC_more (qs : Nat → Nat) (n x : Nat) : ptrsC (putN qs n x) (n + 1) = ptrsC qs n ++ [ptr x] := by
  unfold ptrsC
  rw [List.range_succ, List.map_append]
  congr 1
  · refine List.map_congr_left fun i hi => ?_
    have := List.mem_range.1 hi
    rw [putN_other _ _ (by omega)]
  · simp [putN_same]

/-- An engine that has its first k processes. -/
structure NewE (B : Nat) (w : World) (l m mc ms : Nat) (ov av sv : Value) (n : Nat) (s : St) (eb : Nat) (pv : Value) (qs : Nat → Nat) (k : Nat) : Prop where
  new : NewL B w l m mc ms ov av sv n s
  head : Bk 63 w eb #[ptr l, pv]
  procs : w.ownsRow B 64 1 pv k (ptrsC qs k)
  pr : ∀ p, p < k → Bk 71 w (qs p) (pc0 l p) ∧ B ≤ qs p
  inj : ∀ p q, p < k → q < k → qs p = qs q → p = q
  eb : B ≤ eb

theorem NewE.one {B : Nat} {w W' : World} {l m mc ms : Nat} {ov av sv : Value} {n : Nat} {s : St} {eb : Nat} {pv v' : Value} {qs : Nat → Nat} {k : Nat} (h : NewE B w l m mc ms ov av sv n s eb pv qs k) (hBw : B ≤ w.heap.size)
    (ho : W'.ownsRow 0 64 1 v' (k + 1) (ptrsC qs k ++ (#[ptr w.heap.size] : Array Value).toList)) (hg : ((w.alloc (.cells (pc0 l k) 71)).alloc (.cells #[ptr w.heap.size] 64)).grownBy W' pv.ownBlock)
    (hv : v'.ownBlock = pv.ownBlock ∨ v'.ownBlock = some ((w.alloc (.cells (pc0 l k) 71)).heap.size + 1)) :
    NewE B (W'.setCell ⟨eb, 1, none⟩ v') l m mc ms ov av sv n s eb v' (putN qs k w.heap.size) (k + 1) ∧ Below B w (W'.setCell ⟨eb, 1, none⟩ v') ∧ Bk 63 W' eb #[ptr l, pv] := by
  have hsz : (w.alloc (.cells (pc0 l k) 71)).heap.size = w.heap.size + 1 := by simp
  have h1 : Only (fun j => pv.ownBlock = some j) (w.alloc (.cells (pc0 l k) 71)) W' := grown_only hg
  have h2 : Only (fun j => pv.ownBlock = some j) w W' := ((Only.refl (fun j => pv.ownBlock = some j) w).alloc _).trans h1 fun _ _ a => a
  have pvb : ∀ g, pv.ownBlock = some g → ∃ cs, Bk 64 w g cs := fun g => row_bk h.procs
  have hpv : ∀ {t : TypeId} {b : Nat} {cs : Array Value}, Bk t w b cs → t ≠ 64 → pv.ownBlock ≠ some b := fun hb ht e1 => (hb.ne (pvb _ e1).choose_spec ht) rfl
  have hW : Bk 63 W' eb #[ptr l, pv] := h.head.only h2 (hpv h.head (by decide))
  have o2 : Only (fun j => pv.ownBlock = some j ∨ j = eb) w (W'.setCell ⟨eb, 1, none⟩ v') := (h2.mono fun _ a => .inl a).setCell 1 (fun _ => .inr rfl) v'
  have kb : ∀ {t : TypeId} {b : Nat} {cs : Array Value}, Bk t w b cs → t ≠ 64 → t ≠ 63 → Bk t (W'.setCell ⟨eb, 1, none⟩ v') b cs := fun hb h3 h4 => hb.only o2 fun g => g.elim (hpv hb h3) fun g => (hb.ne h.head h4) g
  have kr : ∀ {t : TypeId} {base nn sz : Nat} {v : Value} {xs : List Value}, w.ownsRow base t sz v nn xs → t ≠ 64 → t ≠ 63 → (W'.setCell ⟨eb, 1, none⟩ v').ownsRow base t sz v nn xs := fun hr h3 h4 => ownsRow_keep hr fun g hg => by
    obtain ⟨cs, hb⟩ := row_bk hr hg
    exact o2.block g hb.lt fun a => a.elim (hpv hb h3) fun a => (hb.ne h.head h4) a
  have mapk : ∀ b, (∀ {t : TypeId} {c : Nat} {cs : Array Value}, Bk t w c cs → c ≠ b) → b < w.heap.size → (W'.setCell ⟨eb, 1, none⟩ v').heap[b]? = w.heap[b]? := fun b hb hlt => o2.block b hlt fun a => a.elim (fun a => (hb (pvb _ a).choose_spec) rfl) fun a => (hb h.head) a.symm
  have mm := h.new.mac.head
  have vne : ∀ g, v'.ownBlock = some g → g ≠ eb := fun g hg e1 => by
    obtain ⟨cs, hb⟩ := row_bk ho hg
    rw [e1] at hb
    exact (hb.ne hW (by decide)) rfl
  have vB : ∀ g, v'.ownBlock = some g → B ≤ g := fun g hg => by
    rcases hv with hv | hv
    · rw [hv] at hg
      rcases h.procs.2 with ⟨a, _⟩ | ⟨g', cap, cur, a, b, _⟩
      · rw [a] at hg; cases hg
      · rw [a] at hg
        have : g' = g := by simpa [Value.ownBlock] using hg
        omega
    · rw [hv] at hg
      have := Option.some.inj hg
      omega
  have hnew : Bk 71 (W'.setCell ⟨eb, 1, none⟩ v') w.heap.size (pc0 l k) := by
    have a : Bk 71 (w.alloc (.cells (pc0 l k) 71)) w.heap.size (pc0 l k) := heap_alloc_new _ _
    have b := a.only h1 fun e1 => by have := (pvb _ e1).choose_spec.lt; omega
    exact b.other eb 1 v' (by have := h.head.lt; omega)
  refine ⟨⟨⟨kb h.new.list (by decide) (by decide), kr h.new.ops (by decide) (by decide), kr h.new.last (by decide) (by decide), kr h.new.st (by decide) (by decide), h.new.mac.keep ?_ ?_ ?_, h.new.ge⟩, hW.set 1 v', ?_, fun p hp => ?_, fun p q hp hq e1 => ?_, h.eb⟩, ?_, hW⟩
  · exact o2.block _ mm.lt fun a => a.elim (hpv mm (by decide)) fun a => (mm.ne h.head (by decide)) a
  · exact mapk _ (fun hb => h.new.mac.cells.apart hb) h.new.mac.cells.lt
  · exact mapk _ (fun hb => h.new.mac.steps.apart hb) h.new.mac.steps.lt
  · rw [ptrsC_more]
    exact row_up (ownsRow_keep ho fun g hg => Below.heap_setCell _ _ _ _ (vne g hg)) vB
  · by_cases a : p = k
    · rw [a, putN_same]
      exact ⟨hnew, hBw⟩
    · rw [putN_other _ _ a]
      obtain ⟨b1, b2⟩ := h.pr p (by omega)
      exact ⟨kb b1 (by decide) (by decide), b2⟩
  · by_cases a : p = k
    · by_cases b : q = k
      · omega
      · rw [a, putN_same, putN_other _ _ b] at e1
        have := (h.pr q (by omega)).1.lt
        omega
    · by_cases b : q = k
      · rw [b, putN_same, putN_other _ _ a] at e1
        have := (h.pr p (by omega)).1.lt
        omega
      · rw [putN_other _ _ a, putN_other _ _ b] at e1
        exact h.inj p q (by omega) (by omega) e1
  · refine o2.below hBw fun j hj => ?_
    rcases hj with hj | hj
    · rcases h.procs.2 with ⟨a, _⟩ | ⟨g', cap, cur, a, b, _⟩
      · rw [a] at hj; cases hj
      · rw [a] at hj
        have : g' = j := by simpa [Value.ownBlock] using hj
        omega
    · rw [hj]; exact h.eb

theorem row_ge {w : World} {B n s : Nat} {t : TypeId} {v : Value} {xs : List Value} (h : w.ownsRow B t s v n xs) {g : Nat} (hg : v.ownBlock = some g) : B ≤ g := by
  rcases h.2 with ⟨a, _⟩ | ⟨g', cap, cur, a, b, _⟩
  · rw [a] at hg; cases hg
  · rw [a] at hg
    have : g' = g := by simpa [Value.ownBlock] using hg
    omega

/-- An engine that has all its processes. -/
theorem NewE.done {B : Nat} {w : World} {l m mc ms : Nat} {ov av sv : Value} {n : Nat} {s : St} {eb : Nat} {pv : Value} {qs : Nat → Nat} (h : NewE B w l m mc ms ov av sv n s eb pv qs n) (h1 : 1 ≤ n) (h2 : n ≤ 64) (hs : MayS s) : EgM (fun k => k < B) w eb (newEg s n) 0 := by
  have hsv : ∀ g, sv.ownBlock = some g → B ≤ g := fun g hg => row_ge h.new.st hg
  have hi : ∀ x ∈ s.L, I64 x := may_i64 hs
  have hrd : RdI w sv s.L := h.new.st.rd hi
  have ok0 : OpOk op0 := ⟨⟨by decide, by decide⟩, ⟨by decide, by decide⟩, ⟨by decide, by decide⟩⟩
  have i0 : I64 0 := ⟨by decide, by decide⟩
  refine ⟨⟨l, m, mc, ms, qs, pv, ov, .slice none 0 0, av, none, 0, 0, sv, fun _ => .slice none 0 0, fun _ => .slice none 0 0, fun _ => .slice none 0 0, fun _ => False, fun k => sv.ownBlock = some k⟩, mach0 n, _,
    ⟨h.head, row_mono h.procs (Nat.zero_le _), h.new.list, row_mono h.new.ops (Nat.zero_le _), row_mono h.new.last (Nat.zero_le _), OwnR.nil _ _, hrd, h.new.mac, fun p hp => (h.pr p hp).1, h.inj, .inr fun g hg => hg, fun _ _ a => a.elim, fun k hk => (row_bk h.new.st hk).choose_spec.lt, fun k hk hS => ?_, mach0_rel s h1 h2⟩,
    newEg_inv s hs n h1, ⟨h2, Nat.zero_le _, fun _ _ => Nat.le_refl _, nofun, fun _ _ => i0, fun _ _ => ⟨ok0, ok0⟩, fun _ _ => i0, fun _ _ => nofun, fun _ _ _ _ => i0⟩, fun k hk => ?_, fun k hk a => by have := hsv k hk; omega, fun p hp hn => ?_⟩
  · obtain ⟨cs, hb⟩ := row_bk h.new.st hS
    obtain ⟨t, hk⟩ := hk
    match t, hk with
    | 0, hk => exact (hb.ne h.head (by decide)) hk
    | 1, hk => exact (hb.ne h.new.list (by decide)) hk
    | 2, hk => exact (hb.ne h.new.mac.head (by decide)) hk
    | 3, hk => exact (h.new.mac.cells.apart hb) hk
    | 4, hk => exact (h.new.mac.steps.apart hb) hk
    | 5, hk => obtain ⟨p, hp, hk⟩ := hk; exact (hb.ne (h.pr p hp).1 (by decide)) hk
    | 6, hk => exact (hb.ne (row_bk h.procs hk).choose_spec (by decide)) rfl
    | 7, hk => exact (hb.ne (row_bk h.new.ops hk).choose_spec (by decide)) rfl
    | 8, hk =>
      rcases hk with hk | ⟨_, _, hc, _⟩
      · cases hk
      · exact hc.elim
    | 9, hk =>
      rcases hk with hk | ⟨_, _, hc, _⟩
      · exact (hb.ne (row_bk h.new.last hk).choose_spec (by decide)) rfl
      · exact hc.elim
    | _ + 10, hk => exact hk.elim
  · have hk2 : B ≤ k := by
      obtain ⟨t, hk⟩ := hk
      match t, hk with
      | 0, hk => rw [show k = eb from hk]; exact h.eb
      | 1, hk => rw [show k = l from hk]; exact h.new.ge.1
      | 2, hk => rw [show k = m from hk]; exact h.new.ge.2.1
      | 3, hk => rw [show k = mc from hk]; exact h.new.ge.2.2.1
      | 4, hk => rw [show k = ms from hk]; exact h.new.ge.2.2.2
      | 5, hk => obtain ⟨p, hp, hk⟩ := hk; rw [show k = qs p from hk]; exact (h.pr p hp).2
      | 6, hk => exact row_ge h.procs hk
      | 7, hk => exact row_ge h.new.ops hk
      | 8, hk =>
        rcases hk with hk | ⟨_, _, hc, _⟩
        · cases hk
        · exact hc.elim
      | 9, hk =>
        rcases hk with hk | ⟨_, _, hc, _⟩
        · exact row_ge h.new.last hk
        · exact hc.elim
      | _ + 10, hk => exact hk.elim
    show ¬ k < B
    omega
  · rcases hn with hn | hn <;> cases hn

theorem info_qp : (Try.prog.info? 64).map (fun i => (i.zero, i.size, i.bytes)) = some (some (.pointer none), 1, 8) := by kernel_rfl

/-- What New answers. -/
def NewDidE (w : World) (s : St) (procs : Int) (r : Ending) (w' : World) : Prop :=
  Below w.heap.size w w' ∧ if MayS s ∧ 1 ≤ procs ∧ procs ≤ 64 then ∃ eb, r = .returned (.tuple #[ptr eb, .int .i64 0]) ∧ EgM (fun k => k < w.heap.size) w' eb (newEg s procs.toNat) 0 else r = .returned (.tuple #[.pointer none, .int .i64 1])

set_option maxRecDepth 100000 in
set_option maxHeartbeats 4000000 in
theorem newE_any {w : World} {v : Value} {s : St} (hs : StV w v s) (procs : Int) :
    Calls Try.prog 10 #[v, .int .i64 procs] w fun r w' => NewDidE w s procs r w' := by
  have hs0 := id hs
  obtain ⟨vl, rfl, hr, hki, hei⟩ := hs
  have HBA : Hid (Below w.heap.size w (w.alloc (.cells #[.int .i64 s.kind, vl, .bool s.shut, .int .i64 s.eng] 24))) := hide ((Below.refl _ _).alloc (Nat.le_refl _) _)
  have HX0 : Hid (Bk 24 (w.alloc (.cells #[.int .i64 s.kind, vl, .bool s.shut, .int .i64 s.eng] 24)) w.heap.size #[.int .i64 s.kind, vl, .bool s.shut, .int .i64 s.eng]) := hide (heap_alloc_new _ _)
  obtain ⟨W0, hW0⟩ : ∃ W0, W0 = w.alloc (.cells #[.int .i64 s.kind, vl, .bool s.shut, .int .i64 s.eng] 24) := ⟨_, rfl⟩
  rw [← hW0] at HBA HX0
  have HW0 := hide hW0
  have HM : Hid (Calls Try.prog 24 #[.agg #[.int .i64 s.kind, vl, .bool s.shut, .int .i64 s.eng]] W0 fun e w' => e = .returned (.bool (decide (MayS s))) ∧ Below W0.heap.size W0 w') := hide (may_any _ s W0 (hs0.below HBA.out (Nat.le_refl _)))
  have hrv : ∃ a nn c, vl = .slice a nn c := by
    obtain ⟨a, c, hv, _⟩ := hr
    exact ⟨a, _, c, hv⟩
  obtain ⟨va, vn, vc, rfl⟩ := hrv
  obtain ⟨x0, -⟩ := HX0.out.cell 0 rfl
  obtain ⟨x1, -⟩ := HX0.out.cell 1 rfl
  obtain ⟨x2, -⟩ := HX0.out.cell 2 rfl
  obtain ⟨x3, -⟩ := HX0.out.cell 3 rfl
  by_cases hm : MayS s
  · rw [decide_eq_true hm] at HM
    by_cases hp1 : procs < 1
    · have HE : Hid (∀ W r, Below w.heap.size w W → r = .returned (.tuple #[.pointer none, .int .i64 1]) → NewDidE w s procs r W) := hide fun W r hb hr => ⟨hb, by rw [if_neg (by omega)]; exact hr⟩
      have hd : decide (procs < 1) = true := decide_eq_true hp1
      clear hs0 hr hki hei hm hW0
      go_enter Try.func10, Try.ntmps10
      go_upto_region 1 with fail
      rw [← HW0.out]
      go_wp2_with fail
      refine HM.out.mono ?_
      rintro r W1 ⟨rfl, hb1⟩
      have HB1 := hide (HBA.out.trans (hb1.mono HBA.out.size))
      clear hb1
      go_wp2
      refine bodyPost_ret (v := .tuple #[.pointer none, .int .i64 1]) (by simp [results, Try.results10, go_sem]) rfl ?_
      exact HE.out _ _ HB1.out rfl
    by_cases hp2 : 64 < procs
    · have HE : Hid (∀ W r, Below w.heap.size w W → r = .returned (.tuple #[.pointer none, .int .i64 1]) → NewDidE w s procs r W) := hide fun W r hb hr => ⟨hb, by rw [if_neg (by omega)]; exact hr⟩
      have hd : decide (procs < 1) = false := decide_eq_false hp1
      have hd2 : decide (64 < procs) = true := decide_eq_true hp2
      clear hs0 hr hki hei hm hW0
      go_enter Try.func10, Try.ntmps10
      go_upto_region 1 with fail
      rw [← HW0.out]
      go_wp2_with fail
      refine HM.out.mono ?_
      rintro r W1 ⟨rfl, hb1⟩
      have HB1 := hide (HBA.out.trans (hb1.mono HBA.out.size))
      clear hb1
      go_wp2
      refine bodyPost_ret (v := .tuple #[.pointer none, .int .i64 1]) (by simp [results, Try.results10, go_sem]) rfl ?_
      exact HE.out _ _ HB1.out rfl
    · obtain ⟨n, hn⟩ : ∃ n : Nat, procs = (n : Int) := ⟨procs.toNat, by omega⟩
      subst hn
      have h1 : 1 ≤ n := by omega
      have h2 : n ≤ 64 := by omega
      have HE : Hid (∀ W r eb, Below w.heap.size w W → EgM (fun k => k < w.heap.size) W eb (newEg s n) 0 → r = .returned (.tuple #[ptr eb, .int .i64 0]) → NewDidE w s (n : Int) r W) := hide fun W r eb hb he hr => ⟨hb, by rw [if_pos ⟨hm, by omega, by omega⟩]; exact ⟨eb, hr, he⟩⟩
      have HL : Hid (∀ W, Below w.heap.size w W → Calls Try.prog 25 #[.agg #[.int .i64 s.kind, .slice va vn vc, .bool s.shut, .int .i64 s.eng], .int .i64 (n : Int)] W fun r w' => NewDidL W s n r w') := hide fun W hb => newShared_any (hs0.below hb (Nat.le_refl _)) (by have := may_len hm; omega) h1 h2
      have HMS := hide hm
      have hd : decide ((n : Int) < 1) = false := decide_eq_false hp1
      have hd2 : decide (64 < (n : Int)) = false := decide_eq_false hp2
      clear hs0 hr hki hei hm hW0
      go_enter Try.func10, Try.ntmps10
      go_upto_region 1 with fail
      rw [← HW0.out]
      go_wp2_with fail
      refine HM.out.mono ?_
      rintro r W1 ⟨rfl, hb1⟩
      have HB1 := hide (HBA.out.trans (hb1.mono HBA.out.size))
      have hX1 := HX0.out.keep (hb1.block _ HX0.out.lt)
      obtain ⟨y0, -⟩ := hX1.cell 0 rfl
      obtain ⟨y1, -⟩ := hX1.cell 1 rfl
      obtain ⟨y2, -⟩ := hX1.cell 2 rfl
      obtain ⟨y3, -⟩ := hX1.cell 3 rfl
      clear hb1 hX1 x0 x1 x2 x3
      go_wp2_with fail
      refine (HL.out _ HB1.out).mono ?_
      rintro r W2 ⟨l, m, mc, ms, ov, av, sv, rfl, hn2, hb2⟩
      have HB2 := hide (HB1.out.trans (hb2.mono HB1.out.size))
      have HN2 := hide hn2
      have HS1 := hide HB1.out.size
      have HS2 := hide hb2.size
      clear hb2 hn2 y0 y1 y2 y3
      go_upto_region 4 with fail
      obtain ⟨eb, heb⟩ : ∃ eb, eb = W2.heap.size := ⟨_, rfl⟩
      obtain ⟨W3, hW3⟩ : ∃ W3, W3 = W2.alloc (.cells #[ptr l, .slice none 0 0] 63) := ⟨_, rfl⟩
      have hb3 : Below W2.heap.size W2 W3 := by rw [hW3]; exact (Below.refl _ _).alloc (Nat.le_refl _) _
      have hE3 : NewE w.heap.size W3 l m mc ms ov av sv n s eb (.slice none 0 0) (fun _ => 0) 0 := by
        have hn3 := HN2.out.below hb3
        have hle : w.heap.size ≤ W1.heap.size := HS1.out
        refine ⟨⟨hn3.list, row_mono hn3.ops hle, row_mono hn3.last hle, hn3.st.mono hle, hn3.mac, by have := hn3.ge; omega⟩, by rw [hW3, heb]; exact heap_alloc_new _ _, World.ownsRow_nil _ _ _ _, fun p hp => by omega, fun p q hp => by omega, by rw [heb]; have := HB2.out.size; omega⟩
      have HB3 : Hid (Below w.heap.size w W3) := hide (HB2.out.trans (hb3.mono HB2.out.size))
      rw [← hW3, ← heb]
      have HE3 := hide hE3
      clear hW3 heb hb3 hE3 HN2 HL HM HX0 HBA HW0
      go_wp2
      go_loopw [25] (fun vi wr => ∃ (k : Nat) (pv : Value) (qs : Nat → Nat), vi = .int .i64 (k : Int) ∧ k ≤ n ∧ Hid (NewE w.heap.size wr l m mc ms ov av sv n s eb pv qs k) ∧ Hid (Below w.heap.size w wr)) (fun vi _ => n - (intOf vi).toNat)
      case atStart => exact ⟨0, _, _, rfl, Nat.zero_le _, HE3, HB3⟩
      case round =>
        obtain ⟨k, pv, qs, rfl, hk, HEK, HBK⟩ := hrel
        by_cases hlt : k < n
        case neg =>
          obtain rfl : k = n := by omega
          have HF := hide (HE.out wr _ eb HBK.out (HEK.out.done h1 h2 HMS.out) rfl)
          go_wp2
          refine bodyPost_ret (v := .tuple #[ptr eb, .int .i64 0]) (by simp [results, Try.results10, go_sem]) rfl ?_
          exact HF.out
        have hki : (k : Int) < (n : Int) := by omega
        obtain ⟨pa, pc, hpv⟩ := row_form HEK.out.procs
        rw [hpv] at HEK
        have hle : w.heap.size ≤ wr.drew.heap.size := HBK.out.size
        have HKD : Hid (NewE w.heap.size wr.drew l m mc ms ov av sv n s eb (.slice pa k pc) qs k) := hide (by
          have h := HEK.out
          exact ⟨h.new.below ((Below.refl _ wr).drew), h.head.keep rfl, ownsRow_keep h.procs fun _ _ => rfl, h.pr, h.inj, h.eb⟩)
        have HRP : Hid ((wr.drew.alloc (.cells (pc0 l k) 71)).ownsRow 0 64 1 (.slice pa k pc) k (ptrsC qs k)) := hide (World.ownsRow.alloc (row_mono HKD.out.procs (Nat.zero_le _)) _)
        have HFN : Hid (∀ v' W', W'.ownsRow 0 64 1 v' (k + 1) (ptrsC qs k ++ (#[ptr wr.heap.size] : Array Value).toList) → ((wr.drew.alloc (.cells (pc0 l k) 71)).alloc (.cells #[ptr wr.heap.size] 64)).grownBy W' (Value.slice pa k pc).ownBlock → (v'.ownBlock = (Value.slice pa k pc).ownBlock ∨ v'.ownBlock = some ((wr.drew.alloc (.cells (pc0 l k) 71)).heap.size + 1)) →
            ((∃ qs', NewE w.heap.size (W'.setCell ⟨eb, 1, none⟩ v') l m mc ms ov av sv n s eb v' qs' (k + 1)) ∧ Below w.heap.size w (W'.setCell ⟨eb, 1, none⟩ v')) ∧ W'.cell? ⟨eb, 1, none⟩ = some (.slice pa k pc) ∧ W'.frozen? ⟨eb, 1, none⟩ = false) := hide fun v' W' a1 a2 a3 => by
          obtain ⟨b1, b2, b3⟩ := HKD.out.one hle a1 a2 a3
          exact ⟨⟨⟨_, b1⟩, HBK.out.drew.trans b2⟩, b3.cell 1 rfl⟩
        have c0 : wr.cell? ⟨eb, 0, none⟩ = some (ptr l) := (HEK.out.head.cell 0 rfl).1
        have c1 : wr.cell? ⟨eb, 1, none⟩ = some (.slice pa k pc) := (HEK.out.head.cell 1 rfl).1
        have HAL : Hid (∀ (W : World) (X : Obj) (j : Nat) (u : Value), W.cell? ⟨eb, j, none⟩ = some u → (W.alloc X).cell? ⟨eb, j, none⟩ = some u) := hide fun W X j u hc => by
          rw [World.cell?_of_block (a := ⟨eb, j, none⟩) (Below.heap_alloc W X eb (World.block_lt_of_cell? W _ hc))]
          exact hc
        have a0 : (wr.alloc (.cells #[.int .i64 (k : Int), ptr l, .nilFunc, .int .i64 0, .int .i64 0, .int .i64 0, .int .i64 0, .int .i64 0, .int .i64 0, .int .i64 0, .int .i64 0, .slice none 0 0, .bool false, .int .i64 0, .slice none 0 0, .slice none 0 0, .int .i64 0] 71)).cell? ⟨eb, 0, none⟩ = some (ptr l) := HAL.out wr _ 0 _ c0
        have a1 : (wr.alloc (.cells #[.int .i64 (k : Int), ptr l, .nilFunc, .int .i64 0, .int .i64 0, .int .i64 0, .int .i64 0, .int .i64 0, .int .i64 0, .int .i64 0, .int .i64 0, .slice none 0 0, .bool false, .int .i64 0, .slice none 0 0, .slice none 0 0, .int .i64 0] 71)).cell? ⟨eb, 1, none⟩ = some (.slice pa k pc) := HAL.out wr _ 1 _ c1
        have b1 : ((wr.alloc (.cells #[.int .i64 (k : Int), ptr l, .nilFunc, .int .i64 0, .int .i64 0, .int .i64 0, .int .i64 0, .int .i64 0, .int .i64 0, .int .i64 0, .int .i64 0, .slice none 0 0, .bool false, .int .i64 0, .slice none 0 0, .slice none 0 0, .int .i64 0] 71)).alloc (.cells #[ptr wr.heap.size] 64)).cell? ⟨eb, 1, none⟩ = some (.slice pa k pc) := HAL.out _ (.cells #[ptr wr.heap.size] 64) 1 _ a1
        have b2 : ((wr.alloc (.cells #[.int .i64 (k : Int), ptr l, .nilFunc, .int .i64 0, .int .i64 0, .int .i64 0, .int .i64 0, .int .i64 0, .int .i64 0, .int .i64 0, .int .i64 0, .slice none 0 0, .bool false, .int .i64 0, .slice none 0 0, .slice none 0 0, .int .i64 0] 71)).alloc (.cells #[.pointer (some ⟨wr.heap.size, 0, none⟩)] 64)).cell? ⟨eb, 1, none⟩ = some (.slice pa k pc) := b1
        have HOC : Hid (∀ u ∈ (#[ptr wr.heap.size] : Array Value).toList, u.oneCell' = true) := hide (by
          intro u hu
          simp at hu
          rw [hu]
          rfl)
        have HKN : Hid (k ≤ 10000000) := hide (by omega)
        have HSZ : Hid ((wr.drew.alloc (.cells (pc0 l k) 71)).heap.size = wr.heap.size + 1) := hide (by simp)
        clear hpv HE3 HB3 HEK hle
        go_upto_region 7 with fail
        go_region_law (refine step_append_one 61 64 1 8 _ Try.underlying61 info_qp rfl (by decide) (by decide) (by rfl) _ _ (by rfl) (.slice pa k pc) k (ptrsC qs k) (by rfl) #[ptr wr.heap.size] (wr.drew.alloc (.cells (pc0 l k) 71)) (by rfl) HRP.out (by rfl) HOC.out (by rw [HSZ.out]; rfl) HKN.out ?_; intro v9 W9 ho9 hg9 hv9; obtain ⟨hA, t1, t2⟩ := HFN.out v9 W9 ho9 hg9 hv9; have HA9 := hide hA; obtain ⟨z1, z2, hz⟩ : ∃ a c, v9 = Value.slice a (k + 1) c := (by obtain ⟨a, c, h⟩ := row_form ho9; exact ⟨_, _, h⟩); subst hz; clear hA ho9 hg9 hv9)
        all_goals
          go_wp2
          go_roundw
          case rel =>
            obtain ⟨⟨qs', r1⟩, r2⟩ := HA9.out
            exact ⟨k + 1, _, qs', by go_num, by omega, r1, r2⟩
          case measure => simp [intOf]; omega
  · rw [decide_eq_false hm] at HM
    have HE : Hid (∀ W r, Below w.heap.size w W → r = .returned (.tuple #[.pointer none, .int .i64 1]) → NewDidE w s procs r W) := hide fun W r hb hr => ⟨hb, by rw [if_neg (fun a => hm a.1)]; exact hr⟩
    clear hs0 hr hki hei hm hW0
    go_enter Try.func10, Try.ntmps10
    go_upto_region 1 with fail
    rw [← HW0.out]
    go_wp2_with fail
    refine HM.out.mono ?_
    rintro r W1 ⟨rfl, hb1⟩
    have HB1 := hide (HBA.out.trans (hb1.mono HBA.out.size))
    clear hb1
    go_wp2
    refine bodyPost_ret (v := .tuple #[.pointer none, .int .i64 1]) (by simp [results, Try.results10, go_sem]) rfl ?_
    exact HE.out _ _ HB1.out rfl

end Go.Proofs.Ytedfacbngefhnaa
