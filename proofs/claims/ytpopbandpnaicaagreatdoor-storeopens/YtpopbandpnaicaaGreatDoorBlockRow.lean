import Derived.Test.YtpopbandpnaicaaGreatDoorBlockTake
import Derived.Test.YtpopbandpnaicaaGreatDoorPack9
import Derived.Laws.OwnMore
namespace Go.Proofs.YtpopbandpnaicaaGreatDoor
set_option maxRecDepth 100000
open Go.RowKit

def RowX (w : World) (g : Nat) (L : List Rec) : Prop := w.heap[g]? = some (.cells (recCells L).toArray 66 (0, 0))

theorem RowX.lt {w : World} {g : Nat} {L : List Rec} (h : RowX w g L) : g < w.heap.size := (Array.getElem?_eq_some_iff.1 h).1

theorem RowX.below {w w' : World} {g B : Nat} {L : List Rec} (h : RowX w g L) (hb : Below B w w') (hB : w.heap.size <= B) : RowX w' g L := (hb.block g (by have := h.lt; omega)).trans h

theorem RowX.cell {w : World} {g : Nat} {L : List Rec} (h : RowX w g L) (i : Nat) : w.cell? ⟨g, i, none⟩ = (recCells L)[i]? ∧ w.frozen? ⟨g, i, none⟩ = false :=
 ⟨(cell_of_row w g i _ _ _ h).trans (by simp), frozen_of_row w g i _ _ h⟩

theorem RowX.at {w : World} {g : Nat} {L : List Rec} (h : RowX w g L) {k : Nat} (hk : k < L.length) : RecAt w g (k * 7) (L.getD k zeroR) := by
 have hc : ∀ j u, j < 7 -> (recC (L.getD k zeroR))[j]? = some u -> w.cell? ⟨g, k * 7 + j, none⟩ = some u := fun j u hj hu => (h.cell _).1.trans ((recCells_get L k j hk hj).trans hu)
 exact ⟨hc 0 _ (by decide) rfl, hc 1 _ (by decide) rfl, hc 2 _ (by decide) rfl, hc 3 _ (by decide) rfl, hc 4 _ (by decide) rfl, hc 5 _ (by decide) rfl, hc 6 _ (by decide) rfl⟩

theorem recCells_set : ∀ (L : List Rec) (k j : Nat) (v : Value) (r : Rec), k < L.length -> j < 7 -> (recC r).toList = (recC (L.getD k zeroR)).toList.set j v -> (recCells L).set (k * 7 + j) v = recCells (L.set k r)
 | s :: t, 0, j, v, r, _, hj, h => by
   have e : ((s :: t).getD 0 zeroR) = s := rfl
   rw [e] at h
   rw [recCells, Nat.zero_mul, Nat.zero_add, List.set_append_left _ _ (by simp [recC]; omega), <- h]
   rfl
 | s :: t, k + 1, j, v, r, hk, hj, h => by
   have e : (k + 1) * 7 + j = (recC s).toList.length + (k * 7 + j) := by simp [recC]; omega
   have e2 : ((s :: t).getD (k + 1) zeroR) = t.getD k zeroR := by simp [List.getD]
   rw [e2] at h
   rw [recCells, e, List.set_append_right _ _ (by omega), Nat.add_sub_cancel_left, recCells_set t k j v r (by simpa using hk) hj h]
   rfl

theorem RowX.set {w : World} {g : Nat} {L : List Rec} (h : RowX w g L) {k : Nat} (hk : k < L.length) (j : Nat) (hj : j < 7) (v : Value) (r : Rec) (hr : (recC r).toList = (recC (L.getD k zeroR)).toList.set j v) :
   RowX (w.setCell ⟨g, k * 7 + j, none⟩ v) g (L.set k r) := by
 have := heap_setCell_same w g (k * 7 + j) _ _ v h
 unfold RowX
 rw [<- recCells_set L k j v r hk hj hr]
 simpa using this

theorem getD_set {L : List Rec} {k : Nat} (hk : k < L.length) (r : Rec) : (L.set k r).getD k zeroR = r := by simp [List.getD, hk]

theorem RowX.seven {w : World} {g : Nat} {L : List Rec} (h : RowX w g L) {k : Nat} (hk : k < L.length) (i p s c a b y : Int) :
   RowX (((((((w.setCell ⟨g, k * 7, none⟩ (.int .i64 i)).setCell ⟨g, k * 7 + 1, none⟩ (.int .i64 p)).setCell ⟨g, k * 7 + 2, none⟩ (.int .i64 s)).setCell ⟨g, k * 7 + 3, none⟩ (.int .i64 c)).setCell ⟨g, k * 7 + 4, none⟩ (.int .i64 a)).setCell ⟨g, k * 7 + 5, none⟩ (.int .i64 b)).setCell ⟨g, k * 7 + 6, none⟩ (.int .i64 y)) g (L.set k ⟨i, p, s, ⟨c, a, b⟩, y⟩) := by
 have hl : ∀ r, k < (L.set k r).length := fun r => by simpa using hk
 generalize hR : L.getD k zeroR = R
 obtain ⟨i0, p0, s0, ⟨c0, a0, b0⟩, y0⟩ := R
 have h0 := h.set hk 0 (by decide) (.int .i64 i) ⟨i, p0, s0, ⟨c0, a0, b0⟩, y0⟩ (by rw [hR]; rfl)
 have h1 := h0.set (hl _) 1 (by decide) (.int .i64 p) ⟨i, p, s0, ⟨c0, a0, b0⟩, y0⟩ (by rw [getD_set hk]; rfl)
 rw [List.set_set] at h1
 have h2 := h1.set (hl _) 2 (by decide) (.int .i64 s) ⟨i, p, s, ⟨c0, a0, b0⟩, y0⟩ (by rw [getD_set hk]; rfl)
 rw [List.set_set] at h2
 have h3 := h2.set (hl _) 3 (by decide) (.int .i64 c) ⟨i, p, s, ⟨c, a0, b0⟩, y0⟩ (by rw [getD_set hk]; rfl)
 rw [List.set_set] at h3
 have h4 := h3.set (hl _) 4 (by decide) (.int .i64 a) ⟨i, p, s, ⟨c, a, b0⟩, y0⟩ (by rw [getD_set hk]; rfl)
 rw [List.set_set] at h4
 have h5 := h4.set (hl _) 5 (by decide) (.int .i64 b) ⟨i, p, s, ⟨c, a, b⟩, y0⟩ (by rw [getD_set hk]; rfl)
 rw [List.set_set] at h5
 have h6 := h5.set (hl _) 6 (by decide) (.int .i64 y) ⟨i, p, s, ⟨c, a, b⟩, y⟩ (by rw [getD_set hk]; rfl)
 rw [List.set_set] at h6
 exact h6

theorem RowX.rd {w : World} {g : Nat} {L : List Rec} (h : RowX w g L) (hw : ∀ r ∈ L, RecOk r) (hm : L.length <= maxLen) : RdR w (.slice (some ⟨g, 0, none⟩) L.length L.length) L :=
 ⟨_, _, rfl, Nat.le_refl _, hm, (fun e => by cases e), hw, .inr ⟨g, 0, rfl, fun j hj => by rw [Nat.zero_add]; exact h.at hj⟩⟩

theorem recCells_zero : ∀ n : Nat, recCells (List.replicate n zeroR) = List.replicate (n * 7) (Value.int .i64 0)
 | 0 => rfl
 | n + 1 => by
   have e : (n + 1) * 7 = 7 + n * 7 := by omega
   rw [List.replicate_succ, recCells, recCells_zero n, e, <- List.replicate_append_replicate]
   rfl

theorem run_make_recs (w : World) (n : Nat) (hn : n <= 1000000) : (Instr.makeSlice 29 (.int .i64 (n : Int)) (.int .i64 (n : Int))).run Tryz.prog w = .ok (.slice (some ⟨w.heap.size, 0, none⟩) n n) (w.alloc (.cells (recCells (List.replicate n zeroR)).toArray 66)) := by
 obtain ⟨i0, hi, hz0, hz1, hz2⟩ := info_parts info_rec
 have h := run_make (P := Tryz.prog) w 29 66 i0 _ Tryz.underlying29 hi hz0 .i64 .i64 (n : Int) (n : Int) (by omega) (Int.le_refl _) (by rw [hz2]; omega) (by omega)
 rw [Int.toNat_natCast, hz1] at h
 rw [h]
 congr 3
 apply Array.ext'
 rw [recCells_zero]
 apply List.ext_getElem?
 intro i
 show (madeCells #[Value.int .i64 0, .int .i64 0, .int .i64 0, .int .i64 0, .int .i64 0, .int .i64 0, .int .i64 0] (n * 7)).toList[i]? = _
 by_cases hi : i < n * 7
 · have h7 : i % 7 < 7 := Nat.mod_lt _ (by decide)
   have e : ∀ j, j < 7 -> (#[Value.int .i64 0, .int .i64 0, .int .i64 0, .int .i64 0, .int .i64 0, .int .i64 0, .int .i64 0] : Array Value)[j]! = .int .i64 0 := by
     intro j hj
     match j, hj with
     | 0, _ | 1, _ | 2, _ | 3, _ | 4, _ | 5, _ | 6, _ => rfl
   simp only [madeCells, Array.toList_map, Array.toList_range, List.getElem?_map, List.getElem?_range hi, Option.map_some, List.getElem?_replicate, if_pos hi]
   exact congrArg some (e (i % 7) h7)
 · simp [madeCells, hi]

structure ReadB (b : List UInt8) (first count : Nat) (L : List Rec) (m : List UInt8) (t : Bool) : Prop where
 chain : chainR first L
 ok : ∀ r ∈ L, RecOk r
 sound : t = true -> (∀ r ∈ L, FitsR r) -> b = Lib.uvarint first ++ (Lib.uvarint count ++ (encRs [] L ++ m))
 none : t = false -> m = []
 whole : ∀ l', FitsB l' -> encB l' = b -> l'.length = count ∧ L = l'.take L.length ∧ m = encRs (l'.take L.length) (l'.drop L.length) ∧ t = true ∧ (l'.headD zeroR).idx = first

def nextR (first : Nat) (L : List Rec) (r : Rec) (d : Int) : Rec := ⟨(first : Int) + L.length, r.proc, IntKind.i64.wrap (lastSeq L r.proc + d), r.op, r.resp⟩

theorem wrap_i64_ok (n : Int) : I64 (IntKind.i64.wrap n) := by
 unfold I64
 rw [IntKind.wrap_i64]
 omega

theorem wrap_back {a d : Int} (ha0 : 0 <= a) (ha1 : a < 4611686018427387904) (hd : I64 d) (h0 : 0 <= IntKind.i64.wrap (a + d)) (h1 : IntKind.i64.wrap (a + d) < 4611686018427387904) : IntKind.i64.wrap (a + d) - a = d := by
 obtain ⟨d0, d1⟩ := hd
 rw [IntKind.wrap_i64] at *
 omega

theorem ReadB.step {b : List UInt8} {first count : Nat} {L : List Rec} {m : List UInt8} {t : Bool} (h : ReadB b first count L m t) (hf : first < 4611686018427387904) (hlt : L.length < count) (hc : count <= 256)
   {R : Rec} {d : Int} {m' : List UInt8} {t' : Bool} (hT : takeL m = (R, d, m', t')) :
   ReadB b first count (L ++ [nextR first L R d]) m' t' := by
 have hok := take_ok m
 have hno := @take_none m
 have hth := @take_there m
 have hni : m = [] -> t' = false := fun e => by
   have := take_nil
   rw [<- e, hT] at this
   exact this
 rw [hT] at hok hno hth
 obtain ⟨hp, hd, ho, hresp, -, -, hp0⟩ := hok
 refine ⟨?_, ?_, ?_, hno, ?_⟩
 · exact (chain_snoc L first (nextR first L R d)).2 ⟨h.chain, rfl⟩
 · intro r hr
   rcases List.mem_append.1 hr with hr | hr
   · exact h.ok r hr
   · simp only [List.mem_singleton] at hr
     rw [hr]
     have hidx : I64 ((first : Int) + L.length) := ⟨by omega, by omega⟩
     exact ⟨hidx, hp, wrap_i64_ok _, ho, hresp⟩
 · intro ht hfit
   have hm : m ≠ [] := fun e => by
     rw [hni e] at ht
     cases ht
   have htt : t = true := by
     cases t with
     | true => rfl
     | false => exact absurd (h.none rfl) hm
   have hL : ∀ r ∈ L, FitsR r := fun r hr => hfit r (by simp [hr])
   have hn : FitsR (nextR first L R d) := hfit _ (by simp)
   have hb := h.sound htt hL
   have hmt := hth ht
   obtain ⟨s0, s1⟩ := lastSeq_bd R.proc hL
   obtain ⟨_, _, _, n0, n1, _⟩ := hn
   have hdiff : (nextR first L R d).seq - lastSeq L (nextR first L R d).proc = d := wrap_back s0 s1 hd n0 n1
   have he : encRs [] (L ++ [nextR first L R d]) = encRs [] L ++ encOne L (nextR first L R d) := by
     rw [encRs_app]
     simp [encRs]
   have h1 : encOne L (nextR first L R d) ++ m' = m := by
     unfold encOne
     rw [hdiff]
     refine Eq.trans ?_ hmt.symm
     simp only [List.append_assoc]
     rfl
   rw [he, List.append_assoc, h1]
   exact hb
 · intro l' hfl hbl
   obtain ⟨w1, w2, w3, w4, w5⟩ := h.whole l' hfl hbl
   have hl : L.length < l'.length := by omega
   have hfr : FitsR (l'.getD L.length zeroR) := hfl.2.2.1 _ (by simp [List.getD, hl])
   have hLf : ∀ r ∈ L, FitsR r := fun r hr => by
     rw [w2] at hr
     exact hfl.2.2.1 r (List.mem_of_mem_take hr)
   have ed : l'.drop L.length = l'.getD L.length zeroR :: l'.drop (L.length + 1) := by
     rw [List.drop_eq_getElem_cons hl]
     simp [List.getD, hl]
   have hm : m = encOne L (l'.getD L.length zeroR) ++ encRs (L ++ [l'.getD L.length zeroR]) (l'.drop (L.length + 1)) := by
     rw [w3, ed, encRs, <- w2]
   have ht := take_enc hLf hfr (encRs (L ++ [l'.getD L.length zeroR]) (l'.drop (L.length + 1)))
   rw [<- hm, hT] at ht
   have hidx := chain_get l' _ _ hfl.2.2.2 hl
   rw [w5] at hidx
   have el : (L ++ [nextR first L R d]).length = L.length + 1 := by simp
   rw [el, takeR_snoc hl]
   rw [<- w2]
   generalize l'.getD L.length zeroR = r at *
   simp only [Prod.mk.injEq] at ht
   obtain ⟨ht1, ht2, ht3, ht4⟩ := ht
   have hnext : nextR first L R d = r := by
     obtain ⟨_, _, _, q0, q1, _⟩ := hfr
     unfold nextR
     rw [ht1, ht2]
     have e1 : lastSeq L r.proc + (r.seq - lastSeq L r.proc) = r.seq := by omega
     show (⟨_, r.proc, IntKind.i64.wrap (lastSeq L r.proc + (r.seq - lastSeq L r.proc)), r.op, r.resp⟩ : Rec) = _
     rw [e1, wrap_id ⟨by omega, by omega⟩, <- hidx]
   rw [hnext]
   exact ⟨w1, rfl, ht3, ht4, w5⟩

theorem ReadB.done {b : List UInt8} {first : Nat} {L : List Rec} {m : List UInt8} {t : Bool} (h : ReadB b first L.length L m t) :
   (t = true ∧ m = [] ∧ FitsB L -> encB L = b) ∧ (¬ (t = true ∧ m = [] ∧ FitsB L) -> ∀ l', FitsB l' -> encB l' ≠ b) := by
 constructor
 · rintro ⟨ht, hm, hf⟩
   have hb := h.sound ht hf.2.2.1
   rw [hm, List.append_nil] at hb
   rw [hb]
   unfold encB
   have hc := h.chain
   have h1 := hf.1
   match L, h1, hc with
   | r :: u, _, hc =>
     have e : r.idx = (first : Int) := hc.1
     show Lib.uvarint r.idx.toNat ++ _ = _
     rw [e, Int.toNat_natCast]
 · intro hn l' hfl hbl
   obtain ⟨w1, w2, w3, w4, w5⟩ := h.whole l' hfl hbl
   rw [<- w1, List.take_length] at w2
   refine hn ⟨w4, ?_, by rw [w2]; exact hfl⟩
   rw [w3, <- w1, List.drop_length]
   rfl

end Go.Proofs.YtpopbandpnaicaaGreatDoor
