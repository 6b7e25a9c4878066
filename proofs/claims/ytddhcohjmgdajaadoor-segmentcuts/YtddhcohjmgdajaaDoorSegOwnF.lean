/- Contracts of segment: readRecords, readBlock. -/
import Derived.Test.YtddhcohjmgdajaaDoorSegOwnE
namespace Go.Proofs.YtddhcohjmgdajaaDoor
open Go.RowKit

theorem elder_cut {v : Nat} (h1 : 1 ≤ v) (h3 : v ≤ 3) {r : Rec} (hr : FitsR r) (t : List UInt8) {n k : Nat} (hd : dec62 (elderE v r ++ t) = (n, k)) :
    k ≠ 0 ∧ k + n ≤ (elderE v r ++ t).length ∧ decR (((elderE v r ++ t).drop k).take n) = (upgR v r, 0) ∧ (elderE v r ++ t).drop (k + n) = t := by
  have hn := encR_len h1 h3 hr
  have hu := Lib.uvarint_pos (encR v r).length
  have hd2 : dec62 (elderE v r ++ t) = ((encR v r).length, (Lib.uvarint (encR v r).length).length) := by
    unfold elderE
    rw [List.append_assoc]
    exact dec62_uvarint _ _ (by omega)
  rw [hd2] at hd
  simp only [Prod.mk.injEq] at hd
  obtain ⟨rfl, rfl⟩ := hd
  have hdr : (elderE v r ++ t).drop (Lib.uvarint (encR v r).length).length = encR v r ++ t := by
    unfold elderE
    rw [List.append_assoc, List.drop_left]
  refine ⟨by omega, ?_, ?_, ?_⟩
  · unfold elderE
    simp only [List.length_append]
    omega
  · rw [hdr, List.take_left, decR_enc (by omega) (by omega) hr]
  · rw [← List.drop_drop, hdr, List.drop_left]

theorem elderE_ne (v : Nat) (r : Rec) (t : List UInt8) : elderE v r ++ t ≠ [] := fun e => by
  have := congrArg List.length e
  have hu := Lib.uvarint_pos (encR v r).length
  unfold elderE at this
  rw [List.length_append, List.length_append, List.length_nil] at this
  omega

/-- Where the reading of records stands: those that were read, and the bytes behind them, if all are records of some version. -/
def GoodR (d : List UInt8) (A : List Rec) (M : List UInt8) : Prop :=
  ∀ (v : Nat) (l : List Rec), 1 ≤ v → v ≤ 3 → (∀ r ∈ l, FitsR r) → l.length ≤ 16 → d = l.flatMap (elderE v) → A.length ≤ l.length ∧ A = (l.take A.length).map (upgR v) ∧ M = (l.drop A.length).flatMap (elderE v)

/-- What is read, if bytes are records of some version. -/
def ReadRs (d : List UInt8) (A : List Rec) : Prop :=
  ∀ (v : Nat) (l : List Rec), 1 ≤ v → v ≤ 3 → (∀ r ∈ l, FitsR r) → l.length ≤ 16 → d = l.flatMap (elderE v) → A = l.map (upgR v)

theorem GoodR.start (d : List UInt8) : GoodR d [] d := fun v l _ _ _ _ h => ⟨by simp, by simp, by simpa using h⟩

theorem GoodR.done {d : List UInt8} {A : List Rec} (h : GoodR d A []) : ReadRs d A := fun v l h1 h3 hf hl hd => by
  obtain ⟨g1, g2, g3⟩ := h v l h1 h3 hf hl hd
  cases hx : l.drop A.length with
  | nil =>
    have := congrArg List.length hx
    rw [List.length_drop, List.length_nil] at this
    rw [List.take_of_length_le (by omega)] at g2
    exact g2
  | cons r t =>
    rw [hx, List.flatMap_cons] at g3
    exact absurd g3.symm (elderE_ne v r _)

theorem GoodR.many {d : List UInt8} {A : List Rec} {M : List UInt8} (h : GoodR d A M) (hA : 16 < A.length) : ReadRs d A := fun v l h1 h3 hf hl hd => by
  have := (h v l h1 h3 hf hl hd).1
  omega

theorem GoodR.next {d : List UInt8} {A : List Rec} {M : List UInt8} (h : GoodR d A M) (hM : M ≠ []) {v : Nat} {l : List Rec} (h1 : 1 ≤ v) (h3 : v ≤ 3) (hf : ∀ r ∈ l, FitsR r) (hl : l.length ≤ 16) (hd : d = l.flatMap (elderE v)) :
    ∃ r t, l.drop A.length = r :: t ∧ FitsR r ∧ M = elderE v r ++ t.flatMap (elderE v) := by
  obtain ⟨g1, g2, g3⟩ := h v l h1 h3 hf hl hd
  cases hx : l.drop A.length with
  | nil =>
    rw [hx] at g3
    exact absurd g3 hM
  | cons r t =>
    rw [hx, List.flatMap_cons] at g3
    exact ⟨r, t, rfl, hf r (List.mem_of_mem_drop (by rw [hx]; simp)), g3⟩

theorem GoodR.bad {d : List UInt8} {A : List Rec} {M : List UInt8} (h : GoodR d A M) (hM : M ≠ []) {n k : Nat} (hd : dec62 M = (n, k)) (hb : k = 0 ∨ M.length < k + n ∨ (decR ((M.drop k).take n)).2 ≠ 0) : ReadRs d [] := fun v l h1 h3 hf hl hdl => by
  obtain ⟨r, t, _, hr, e⟩ := h.next hM h1 h3 hf hl hdl
  rw [e] at hd hb
  obtain ⟨c1, c2, c3, _⟩ := elder_cut h1 h3 hr _ hd
  rw [c3] at hb
  rcases hb with hb | hb | hb
  · exact absurd hb c1
  · omega
  · exact absurd rfl hb

theorem GoodR.step {d : List UInt8} {A : List Rec} {M : List UInt8} (h : GoodR d A M) (hM : M ≠ []) {n k : Nat} (hd : dec62 M = (n, k)) {X : Rec} {e : Int} (hX : decR ((M.drop k).take n) = (X, e)) : GoodR d (A ++ [X]) (M.drop (k + n)) := fun v l h1 h3 hf hl hdl => by
  obtain ⟨r, t, hx, hr, em⟩ := h.next hM h1 h3 hf hl hdl
  obtain ⟨g1, g2, g3⟩ := h v l h1 h3 hf hl hdl
  rw [em] at hd hX
  obtain ⟨c1, c2, c3, c4⟩ := elder_cut h1 h3 hr _ hd
  rw [c3] at hX
  simp only [Prod.mk.injEq] at hX
  have hlen := congrArg List.length hx
  rw [List.length_drop, List.length_cons] at hlen
  have hget : l.take (A.length + 1) = l.take A.length ++ [r] := by
    rw [List.take_add_one]
    have : l[A.length]? = some r := by
      rw [← List.head?_drop, hx]
      rfl
    rw [this]
    rfl
  have hdrop : l.drop (A.length + 1) = t := by
    rw [← List.drop_drop, hx]
    rfl
  rw [List.length_append, List.length_singleton]
  refine ⟨by omega, ?_, ?_⟩
  · rw [hget, List.map_append, ← g2, ← hX.1]
    rfl
  · rw [hdrop, em, c4]

theorem cut3_at (w : World) (ao : Option Addr) (l : List UInt8) (cap : Nat) (hr : Rd w (.slice ao l.length cap) l) (i n : Nat) (hn : i + n ≤ l.length) :
    ∃ a c, Rd w (.slice a ((l.drop i).take n).length c) ((l.drop i).take n) ∧ ∀ I J : Int, I = (i : Int) → J = ((i + n : Nat) : Int) → ∀ W, (Instr.sliceAt 26 (.slice ao l.length cap) (some (.int .i64 I)) (some (.int .i64 J)) (some (.int .i64 J))).run Tryd.prog W = .ok (.slice a ((l.drop i).take n).length c) W := by
  have hlc : l.length ≤ cap := by
    obtain ⟨a, c, e, h, -⟩ := hr
    simp only [Value.slice.injEq] at e
    omega
  have h := hr.mid i (i + n) (i + n) (by omega) (by omega) (Nat.le_refl _) (by omega)
  have e1 : i + n - i = n := by omega
  have e2 : ((l.drop i).take n).length = n := by rw [List.length_take, List.length_drop]; omega
  rw [e1] at h
  unfold sliced at h
  rw [e1] at h
  refine ⟨_, _, by rw [e2]; exact h, fun I J hI hJ W => ?_⟩
  subst hI hJ
  rw [run_sliceAt_slice W 26 _ _ _ _ under_bytes, run_slice_lhm W 26 ao l.length cap under_bytes .i64 .i64 .i64 (i : Int) ((i + n : Nat) : Int) ((i + n : Nat) : Int) (by omega) (by omega) (Int.le_refl _) (by omega), elem_bytes, size_u8]
  simp only [Int.toNat_natCast, e2]
  unfold sliced
  rw [e1]
  rfl

theorem run_append_recg (w : World) (ty : TypeId) (B : Nat) (v : Value) (l : List Rec) (h : OwnR w B v l) (r : Rec) (hlim : l.length ≤ 1000000) (hbase : B ≤ w.heap.size) :
    ∃ v' w', (Builtin.append_ #[22, 22] ty #[v, .slice (some ⟨w.heap.size, 0, none⟩) 1 1]).run Tryd.prog (w.alloc (.cells (recC r) 48)) = .ok v' w' ∧ OwnR w' B v' (l ++ [r]) ∧ Below B w w' ∧ ∀ k, k < w.heap.size → some k ≠ v.ownBlock → w'.heap[k]? = w.heap[k]? := by
  obtain ⟨i0, hi, hz0, hz1, hz2⟩ := info_parts info_rec
  obtain ⟨v', w', hrun, ho, hg, _⟩ := run_append_own (P := Tryd.prog) (w.alloc (.cells (recC r) 48)) B 22 ty 48 i0 _ 7 56 Tryd.underlying22 hi hz0 hz1 hz2 rfl (by decide) v l.length (recCells l) (h.alloc _)
    ⟨w.heap.size, 0, none⟩ 1 1 (recCells [r]) (recCells_length [r]) (fun j u hj => by
      rw [Addr.add_lit, Nat.zero_add, cell_of_row _ w.heap.size j _ 48 (0, 0) (heap_alloc_new w _)]
      simpa [recCells] using hj) (recCells_one [r]) (by unfold maxLen; omega) (by omega) (by simp; omega)
  refine ⟨v', w', hrun, ?_, ?_, fun k hk hn => ?_⟩
  · unfold OwnR
    rw [List.length_append, recCells_app]
    exact ho
  · exact ((Below.refl _ _).alloc hbase _).grown hg (by simp; omega) (fun k hk => (World.ownsRow.lt h k hk).1)
  · exact (hg.block k (by simp; omega) hn).trans (heap_alloc_old w _ hk)

theorem step_append_rec {ops : Array Oper} {o : Oper} {a : Act} {w : World} {K : Act → World → Prop} {Q : Exit → Act → World → Prop} {E : Prop}
    (hg : o.guard = none) (s x : Operand) (hop : o.op = Op.call { callee := Callee.builtin Builtin.append, args := #[s, x], argTypes := #[22, 22] })
    (B : Nat) (v : Value) (l : List Rec) (hs : a.eval s = v) (r : Rec) (W0 : World) (hw0 : w = W0.alloc (.cells (recC r) 48)) (hown : OwnR W0 B v l) (hx : a.eval x = .slice (some ⟨W0.heap.size, 0, none⟩) 1 1)
    (hlim : l.length ≤ 1000000) (hbase : B ≤ W0.heap.size)
    (hK : ∀ v' w', OwnR w' B v' (l ++ [r]) → Below B W0 w' → (∀ k, k < W0.heap.size → some k ≠ v.ownBlock → w'.heap[k]? = W0.heap[k]?) → K (a.put o.dst v') w') :
    if Region.wanted o (yielded ops a.tmps) = true then Oper.wp Tryd.prog o a w K Q else E := by
  have hw : Region.wanted o (yielded ops a.tmps) = true := by simp [Region.wanted, hg]
  rw [if_pos hw]
  subst hw0
  obtain ⟨v', w', hrun, h2, h3, h4⟩ := run_append_recg W0 o.type B v l hown r hlim hbase
  unfold Oper.wp execOp
  simp only [hop, resolve, invoke, builtin, Sem.run_bind, Sem.run_pure, Result.andThen_ok, List.map_toArray, List.map_cons, List.map_nil, hs, hx, hrun]
  exact hK v' w' h2 h3 h4

/-- What readRecords answers. -/
def RecsRead (w : World) (d : List UInt8) (e : Ending) (w' : World) : Prop := ∃ vl A, e = .returned vl ∧ RdR w' vl A ∧ ReadRs d A ∧ Below w.heap.size w w'

set_option maxRecDepth 100000 in
set_option maxHeartbeats 4000000 in
theorem readRecords_any (vd : Value) (d : List UInt8) (w : World) (hr : Rd w vd d) (hlim : d.length ≤ 1000000) (ht : TabF w) :
    Calls Tryd.prog 73 #[vd] w fun e w' => RecsRead w d e w' := by
  have HR := hide hr
  have HTB := hide (fun W (hb : Below w.heap.size w W) => ht.below hb (Nat.le_refl _))
  obtain ⟨ao, cap, rfl, -⟩ := hr
  have HS0 := hide (GoodR.start d)
  clear ht
  go_enter Tryd.func73, Tryd.ntmps73
  go_wp2
  go_loopw [0, 3] (fun td tl wr => ∃ (M : List UInt8) (A : List Rec) (a1 : Option Addr) (c1 : Nat), td = .slice a1 M.length c1 ∧ M.length ≤ 1000000 ∧ A.length ≤ 17 ∧ Hid (Rd w (.slice a1 M.length c1) M) ∧ Hid (OwnR wr w.heap.size tl A) ∧ Hid (∀ r ∈ A, RecOk r) ∧ Hid (GoodR d A M) ∧ Hid (Below w.heap.size w wr)) (fun td _ _ => lenV8 td)
  case atStart => exact ⟨d, [], ao, cap, rfl, hlim, by simp, HR, OwnR.nil _ _, hide (by simp), HS0, Below.refl _ _⟩
  case round =>
    obtain ⟨M, A, a1, c1, rfl, hM, hA, HRM, HOA, HRO, HG, HB⟩ := hrel
    clear HS0 HR hlim
    obtain ⟨al, cl, rfl⟩ := HOA.out.shape
    by_cases hm : M = []
    · have HE2 : Hid (ReadRs d A) := hide (by have h := HG.out; rw [hm] at h; exact h.done)
      have h0 : ¬ (0 : Int) < (M.length : Int) := by rw [hm]; simp
      clear HG hm
      go_wp2
      go_ret
      exact ⟨_, A, rfl, HOA.out.rd HRO.out, HE2.out, HB.out⟩
    have hpos : (0 : Int) < (M.length : Int) := by
      have : 0 < M.length := List.length_pos_iff.2 hm
      omega
    by_cases h16 : A.length ≤ 16
    case neg =>
      have HE2 := hide (HG.out.many (by omega))
      have h16' : ¬ (A.length : Int) ≤ 16 := by omega
      clear HG hm h16
      go_wp2
      go_ret
      exact ⟨_, A, rfl, HOA.out.rd HRO.out, HE2.out, HB.out⟩
    have h16' : (A.length : Int) ≤ 16 := by omega
    have HGE := hide (get_any (.slice a1 M.length c1) M wr (HRM.out.below HB.out (Nat.le_refl _)))
    have hkl := dec62_le M
    have hn62 := dec62_lt M
    have HGB := hide (fun n k (h : dec62 M = (n, k)) => HG.out.bad hm h)
    have HGS := hide (fun n k (h : dec62 M = (n, k)) X e (hX : decR ((M.drop k).take n) = (X, e)) => HG.out.step hm h hX)
    obtain ⟨⟨n, k⟩, hd⟩ : ∃ x, dec62 M = x := ⟨_, rfl⟩
    rw [hd] at HGE hkl hn62
    simp only at HGE hkl hn62
    have HGB2 := hide (HGB.out n k hd)
    have HGS2 := hide (HGS.out n k hd)
    clear HGB HGS hd HG
    go_wp2_with fail
    refine HGE.out.mono ?_
    rintro e W1 ⟨rfl, hw1⟩
    rw [hw1]
    clear HGE hw1 W1
    by_cases e1 : k = 0
    · have HN := hide (HGB2.out (.inl e1))
      have f1 : ((k : Int) == 0) = true := by rw [beq_iff_eq]; omega
      clear e1 HGB2 HGS2
      go_wp2
      go_ret
      exact ⟨_, [], rfl, RdR.nil _, HN.out, HB.out⟩
    have f1 : ((k : Int) == 0) = false := beq_eq_false_iff_ne.2 (by omega)
    by_cases e2 : M.length < k + n
    · have HN := hide (HGB2.out (.inr (.inl e2)))
      have f2 : (M.length : Int) - (k : Int) < (n : Int) := by omega
      clear e1 e2 HGB2 HGS2
      go_wp2
      go_ret
      exact ⟨_, [], rfl, RdR.nil _, HN.out, HB.out⟩
    have f2 : ¬ (M.length : Int) - (k : Int) < (n : Int) := by omega
    obtain ⟨a2, c2, hr2, hcut2⟩ := cut3_at w _ M c1 HRM.out k n (by omega)
    obtain ⟨a3, c3, hr3, hcut3⟩ := cut_at w _ M c1 HRM.out (k + n) (by omega)
    have k2 := hcut2 (k : Int) ((k : Int) + (n : Int)) rfl (by omega)
    have k3 := hcut3 ((k : Int) + (n : Int)) (by omega)
    have hkn : (k : Int) + (n : Int) ≤ 1000000 := by omega
    have HDE := hide (fun W (hb : Below w.heap.size w W) => decodeR_any _ _ W (hr2.below hb (Nat.le_refl _)) (by rw [List.length_take, List.length_drop]; omega) (HTB.out W hb))
    have HR3 := hide hr3
    have hl3 : (M.drop (k + n)).length + 1 ≤ M.length := by rw [List.length_drop]; omega
    have HOKR := hide (fun h => recOk_dec (l := (M.drop k).take n) h)
    unfold DecodedR recV at HDE
    generalize ((M.drop k).take n).length = n2 at *
    obtain ⟨⟨X, ec⟩, hdx⟩ : ∃ x, decR ((M.drop k).take n) = x := ⟨_, rfl⟩
    have HGS3 := hide (HGS2.out X ec hdx)
    rw [hdx] at HDE HOKR HGB2
    simp only at HDE HOKR HGB2
    generalize M.drop (k + n) = M3 at *
    clear e1 e2 hm hcut2 hcut3 hr2 hr3 hdx HRM HGS2
    go_wp2_with fail
    refine (HDE.out _ HB.out).mono ?_
    rintro e W2 ⟨rfl, hb2⟩
    have HA2 := hide (HOA.out.below hb2 (Nat.le_refl _))
    have HB2 := hide (HB.out.trans (hb2.mono HB.out.size))
    clear hb2 HOA HB HDE k2
    obtain ⟨NA, hNA⟩ : ∃ N, N = W2.heap.size := ⟨_, rfl⟩
    obtain ⟨WA, hWA⟩ : ∃ V, V = W2.alloc (.cells #[.int .i64 X.idx, .int .i64 X.proc, .int .i64 X.seq, .int .i64 X.op.code, .int .i64 X.op.a, .int .i64 X.op.b, .int .i64 X.resp] 48) := ⟨_, rfl⟩
    have hbA : Below W2.heap.size W2 WA := by rw [hWA]; exact (Below.refl _ _).alloc (Nat.le_refl _) _
    have HYA : Hid (Br WA NA #[.int .i64 X.idx, .int .i64 X.proc, .int .i64 X.seq, .int .i64 X.op.code, .int .i64 X.op.a, .int .i64 X.op.b, .int .i64 X.resp]) := hide (by rw [hWA, hNA]; exact heap_alloc_new W2 _)
    have HAA := hide (HA2.out.below hbA (Nat.le_refl _))
    have HBA := hide (HB2.out.trans (hbA.mono HB2.out.size))
    have HSA := hide HBA.out.size
    have HNE : Hid (some NA ≠ (Value.slice al A.length cl).ownBlock) := hide (fun e => by
      have h := (World.ownsRow.lt HA2.out NA e.symm).2
      omega)
    go_upto_region 8 with fail
    rw [← hWA, ← hNA]
    clear hWA hNA hbA HA2 HB2
    by_cases he : ec = 0
    case neg =>
      have HN := hide (HGB2.out (.inr (.inr he)))
      have f5 : (ec != 0) = true := by rw [bne_iff_ne]; exact he
      clear he HOKR HGB2 HGS3
      go_wp2
      go_ret
      exact ⟨_, [], rfl, RdR.nil _, HN.out, HBA.out⟩
    have HXO := hide (HOKR.out he)
    subst he
    clear HOKR HGB2
    obtain ⟨q0, -⟩ := HYA.out.cell 0
    obtain ⟨q1, -⟩ := HYA.out.cell 1
    obtain ⟨q2, -⟩ := HYA.out.cell 2
    obtain ⟨q3, -⟩ := HYA.out.cell 3
    obtain ⟨q4, -⟩ := HYA.out.cell 4
    obtain ⟨q5, -⟩ := HYA.out.cell 5
    obtain ⟨q6, -⟩ := HYA.out.cell 6
    have HKA : Hid (∀ W : World, W.heap[NA]? = WA.heap[NA]? → W.cell? ⟨NA, 0, none⟩ = some (.int .i64 X.idx) ∧ W.cell? ⟨NA, 1, none⟩ = some (.int .i64 X.proc) ∧ W.cell? ⟨NA, 2, none⟩ = some (.int .i64 X.seq) ∧ W.cell? ⟨NA, 3, none⟩ = some (.int .i64 X.op.code) ∧ W.cell? ⟨NA, 4, none⟩ = some (.int .i64 X.op.a) ∧ W.cell? ⟨NA, 5, none⟩ = some (.int .i64 X.op.b) ∧ W.cell? ⟨NA, 6, none⟩ = some (.int .i64 X.resp)) := hide (fun W hb => by
      have h : Br W NA _ := hb.trans HYA.out
      exact ⟨(h.cell 0).1, (h.cell 1).1, (h.cell 2).1, (h.cell 3).1, (h.cell 4).1, (h.cell 5).1, (h.cell 6).1⟩)
    have HRX : Hid (∀ r ∈ A ++ [X], RecOk r) := hide (fun r hr => by
      rcases List.mem_append.1 hr with h | h
      · exact HRO.out r h
      · rw [List.mem_singleton.1 h]; exact HXO.out)
    have HK0 := hide (HKA.out WA.drew rfl)
    have hNlt := HYA.out.lt
    have HKX := hide (HKA.out (WA.alloc (.cells (recC X) 48)).drew (heap_alloc_old WA _ hNlt))
    have hAl : A.length ≤ 1000000 := by omega
    unfold recC at HKX
    clear q0 q1 q2 q3 q4 q5 q6
    go_upto_region 10 with fail
    go_region_held2 (fun W => W.cell? ⟨NA, 0, none⟩ = some (.int .i64 X.idx) ∧ W.cell? ⟨NA, 1, none⟩ = some (.int .i64 X.proc) ∧ W.cell? ⟨NA, 2, none⟩ = some (.int .i64 X.seq) ∧ W.cell? ⟨NA, 3, none⟩ = some (.int .i64 X.op.code) ∧ W.cell? ⟨NA, 4, none⟩ = some (.int .i64 X.op.a) ∧ W.cell? ⟨NA, 5, none⟩ = some (.int .i64 X.op.b) ∧ W.cell? ⟨NA, 6, none⟩ = some (.int .i64 X.resp)) (first | exact HK0.out | exact HKX.out | exact HK4.out)
      (first
        | (refine step_append_rec (by rfl) _ _ (by rfl) w.heap.size _ A (by rfl) X WA.drew (by rfl) HAA.out (by rfl) hAl HSA.out ?_; intro v4 W4 ho4 hb4 hk4; have HK4 := hide (HKA.out W4 (hk4 NA hNlt HNE.out)); have HO4 := hide ho4; have HB4 : Hid (Below w.heap.size w W4) := hide (HBA.out.drew.trans hb4); clear ho4 hb4 hk4))
    all_goals
      go_wp2
      go_roundw
      case rel => exact ⟨M3, A ++ [X], a3, c3, rfl, by omega, by rw [List.length_append, List.length_singleton]; omega, HR3, HO4, HRX, HGS3, HB4⟩
      case measure => simp [lenV8]; omega

theorem bytesEqual_any (va vb : Value) (a b : List UInt8) (w : World) (ha : Rd w va a) (hb : Rd w vb b) :
    Calls Tryd.prog 54 #[va, vb] w fun e w' => e = .returned (.bool (decide (a = b))) ∧ w' = w := by
  have ca := ha.str
  have cb := hb.str
  have hse : ((bs a).toList == (bs b).toList) = decide (a = b) := by
    rw [bs_eq]
    by_cases h : a = b
    · rw [h, decide_eq_true rfl]; exact beq_self_eq_true b
    · rw [decide_eq_false h, beq_eq_false_iff_ne]; exact h
  generalize decide (a = b) = D at *
  clear ha hb
  go_enter Tryd.func54, Tryd.ntmps54
  go_wp2
  go_ret
  exact ⟨rfl, rfl⟩

end Go.Proofs.YtddhcohjmgdajaaDoor
