/- Contracts of snapshot: chunks, manifestOf. -/
import Derived.Test.YtanmjihiceibbaaPack5
import Derived.Test.YtanmjihiceibbaaPack3
import Derived.Test.YtanmjihiceibbaaCodecShelf
import Derived.Test.YtanmjihiceibbaaCrcOwn
namespace Go.Proofs.Ytanmjihiceibbaa
open Go.RowKit

/-- The values xs are pieces of the bytes l that v is: they read as L wherever v reads as l. -/
def ViewL (v : Value) (l : List UInt8) (xs : List Value) (L : List (List UInt8)) : Prop :=
  xs.length = L.length ∧ ∀ j, j < L.length → ∃ x, xs[j]? = some x ∧ x.oneCell' = true ∧ ∀ W, Rd W v l → Rd W x (L.getD j [])

theorem ViewL.nil (v : Value) (l : List UInt8) : ViewL v l [] [] := ⟨rfl, fun j hj => absurd hj (by simp)⟩

theorem ViewL.snoc {v : Value} {l : List UInt8} {xs : List Value} {L : List (List UInt8)} (h : ViewL v l xs L) {x : Value} {d : List UInt8} (h1 : x.oneCell' = true) (h2 : ∀ W, Rd W v l → Rd W x d) : ViewL v l (xs ++ [x]) (L ++ [d]) := by
  refine ⟨by simp [h.1], fun j hj => ?_⟩
  rw [List.length_append, List.length_singleton] at hj
  by_cases hl : j < L.length
  · obtain ⟨y, e1, e2, e3⟩ := h.2 j hl
    refine ⟨y, by rw [List.getElem?_append_left (by rw [h.1]; exact hl)]; exact e1, e2, ?_⟩
    have e : (L ++ [d]).getD j [] = L.getD j [] := by simp [List.getD, List.getElem?_append_left hl]
    rw [e]
    exact e3
  · have e0 : j = L.length := by omega
    subst e0
    refine ⟨x, by rw [List.getElem?_append_right (by rw [h.1]; omega), h.1]; simp, h1, ?_⟩
    have e : (L ++ [d]).getD L.length [] = d := by simp [List.getD]
    rw [e]
    exact h2

theorem ViewL.one {v : Value} {l : List UInt8} {xs : List Value} {L : List (List UInt8)} (h : ViewL v l xs L) : ∀ u ∈ xs, u.oneCell' = true := fun u hu => by
  obtain ⟨j, hj, rfl⟩ := List.getElem_of_mem hu
  obtain ⟨x, hx, ho, -⟩ := h.2 j (by rw [← h.1]; exact hj)
  rw [List.getElem?_eq_getElem hj] at hx
  obtain rfl := Option.some.inj hx
  exact ho

theorem info_rows : (Try.prog.info? 30).map (fun i => (i.zero, i.size, i.bytes)) = some (some (.slice none 0 0), 1, 24) := by kernel_rfl

/-- Values appended onto a row of one's own. -/
theorem run_append_vals (w : World) (ty : TypeId) (B : Nat) (v : Value) (n : Nat) (xs : List Value) (h : w.ownsRow B 30 1 v n xs) (a : Addr) (m cap : Nat) (ys : List Value) (hm : ys.length = m) (hc : ∀ j u, ys[j]? = some u → w.cell? (a.add j) = some u) (hy : ∀ u ∈ ys, u.oneCell' = true) (hlim : n + m ≤ 1000000) (hbase : B ≤ w.heap.size) :
    ∃ v' w', (Builtin.append_ #[51, 51] ty #[v, .slice (some a) m cap]).run Try.prog w = .ok v' w' ∧ w'.ownsRow B 30 1 v' (n + m) (xs ++ ys) ∧ Below B w w' := by
  obtain ⟨i0, hi, hz0, hz1, hz2⟩ := info_parts info_rows
  obtain ⟨v', w', hrun, ho, hgr, _⟩ := run_append_own (P := Try.prog) w B 51 ty 30 i0 (.slice none 0 0) 1 24 Try.underlying51 hi hz0 hz1 hz2 rfl (by decide) v n xs h
    a m cap ys (by rw [hm, Nat.mul_one]) hc hy (by unfold maxLen; omega) (by omega) hbase
  exact ⟨v', w', hrun, ho, (Below.refl _ _).grown hgr hbase (fun k hk => (World.ownsRow.lt h k hk).1)⟩

theorem wpList_append_vals (w : World) {ops : Array Oper} {rest : List Oper} {o : Oper} {a : Act} {Q : Exit → Act → World → Prop} (hgd : o.guard = none) (s x : Operand)
    (ho : o.op = .call { callee := .builtin .append, args := #[s, x], argTypes := #[51, 51] })
    (B : Nat) (v : Value) (n : Nat) (xs : List Value) (hs : a.eval s = v) (hown : w.ownsRow B 30 1 v n xs) (d : Addr) (m cap : Nat) (ys : List Value) (hx : a.eval x = .slice (some d) m cap) (hm : ys.length = m) (hc : ∀ j u, ys[j]? = some u → w.cell? (d.add j) = some u) (hy : ∀ u ∈ ys, u.oneCell' = true)
    (hlim : n + m ≤ 1000000) (hbase : B ≤ w.heap.size)
    (h : ∀ v' w', w'.ownsRow B 30 1 v' (n + m) (xs ++ ys) → Below B w w' → wpList Try.prog ops Q rest (a.put o.dst v') w') : wpList Try.prog ops Q (o :: rest) a w :=
  wpList_plain hgd fun _ hK => by
    obtain ⟨v', w', hrun, h2, h3⟩ := run_append_vals w o.type B v n xs hown d m cap ys hm hc hy hlim hbase
    unfold Oper.wp execOp
    simp only [ho, resolve, invoke, builtin, Sem.run_bind, Sem.run_pure, Result.andThen_ok, List.map_toArray, List.map_cons, List.map_nil, hs, hx, hrun]
    exact hK _ _ (h v' w' h2 h3)

/-- A piece of bytes, cut by three indices. -/
theorem cut_view (ao : Option Addr) (l : List UInt8) (cap : Nat) (hlc : l.length ≤ cap) (i j : Nat) (hij : i ≤ j) (hj : j ≤ l.length) :
    ∃ xa xn xc, (∀ W, (Instr.sliceAt 30 (.slice ao l.length cap) (some (.int .i64 (i : Int))) (some (.int .i64 (j : Int))) (some (.int .i64 (j : Int)))).run Try.prog W = .ok (.slice xa xn xc) W) ∧ ∀ W, Rd W (.slice ao l.length cap) l → Rd W (.slice xa xn xc) ((l.drop i).take (j - i)) := by
  have hsl : ∃ xa xn xc, sliced ao i j j 1 = .slice xa xn xc := by
    unfold sliced
    exact ⟨_, _, _, rfl⟩
  obtain ⟨xa, xn, xc, hsl⟩ := hsl
  refine ⟨xa, xn, xc, fun W => ?_, fun W h => ?_⟩
  · rw [run_sliceAt_slice W 30 _ _ _ _ under_bytes, run_slice_lhm W 30 ao l.length cap under_bytes .i64 .i64 .i64 (i : Int) (j : Int) (j : Int) (by omega) (by omega) (by omega) (by omega), elem_bytes, size_u8]
    simp only [Int.toNat_natCast]
    rw [← hsl]
    rfl
  · rw [← hsl]
    exact h.mid i j j hij hj (Nat.le_refl _) (by omega)

theorem append_size (w : World) (x : Obj) : w.heap.size ≤ (w.alloc x).heap.size := ((Below.refl w.heap.size w).alloc (Nat.le_refl _) x).size

theorem one_cells (w : World) (v : Value) : ∀ j u, [v][j]? = some u → (w.alloc (.cells #[v] 30)).cell? ((⟨w.heap.size, 0, none⟩ : Addr).add j) = some u := fun j u hj => by
  rw [Addr.add_lit, Nat.zero_add, cell_of_row _ w.heap.size j _ 30 (0, 0) (heap_alloc_new w _)]
  rw [← List.getElem?_toArray] at hj
  exact hj

/-- What chunks answers. -/
def Chunked (w : World) (v : Value) (l : List UInt8) (L : List (List UInt8)) (e : Ending) (w' : World) : Prop :=
  ∃ v' xs, e = .returned v' ∧ w'.ownsRow w.heap.size 30 1 v' L.length xs ∧ ViewL v l xs L ∧ Below w.heap.size w w'

set_option maxRecDepth 100000 in
set_option maxHeartbeats 2000000 in
theorem chunks_any (v : Value) (l : List UInt8) (w : World) (hr : Rd w v l) (hlim : l.length ≤ 100000) :
    Calls Try.prog 24 #[v] w fun e w' => Chunked w v l (pieces l) e w' := by
  obtain ⟨ao, cap, rfl, hlc, hcm, -⟩ := hr
  have HCV := hide (fun i j => cut_view ao l cap hlc i j)
  have HPD : Hid (∀ A, A < l.length → pieces (l.drop A) = (l.drop A).take 64 :: pieces (l.drop (A + 64))) := hide (fun A h => pieces_drop h)
  have HP0 : Hid (pieces l = [] ++ pieces (l.drop 0)) := hide (by simp)
  have HPN : Hid (∀ A, l.length ≤ A → pieces (l.drop A) = []) := hide (fun A h => by rw [List.drop_eq_nil_of_le h, pieces_nil])
  have HTK : Hid (∀ A, l.length ≤ A + 64 → (l.drop A).take (l.length - A) = (l.drop A).take 64) := hide (fun A h => by
    rw [List.take_of_length_le (by rw [List.length_drop]; omega), List.take_of_length_le (by rw [List.length_drop]; omega)])
  obtain ⟨PL, hPL⟩ : ∃ PL, PL = pieces l := ⟨_, rfl⟩
  rw [← hPL] at HP0 ⊢
  clear hPL hcm
  go_enter Try.func24, Try.ntmps24
  go_wp2
  go_loopw [3, 4] (fun vo va wr => ∃ (A : Nat) (P : List (List UInt8)) (xs : List Value), va = .int .i64 (A : Int) ∧ P.length ≤ A ∧ A ≤ l.length + 64 ∧ Hid (wr.ownsRow w.heap.size 30 1 vo P.length xs) ∧ Hid (ViewL (.slice ao l.length cap) l xs P) ∧ Hid (PL = P ++ pieces (l.drop A)) ∧ Hid (Below w.heap.size w wr)) (fun _ va _ => l.length + 64 - (intOf va).toNat)
  case atStart => exact ⟨0, [], [], rfl, Nat.le_refl _, by omega, hide (World.ownsRow_nil w w.heap.size 30 1), hide (ViewL.nil _ _), HP0, Below.refl _ _⟩
  case round =>
    clear HP0
    obtain ⟨A, P, xs, rfl, hPA, hA, hO, hV, hE, hB⟩ := hrel
    by_cases hlt : A < l.length
    case neg =>
      have hni : ¬ (A : Int) < (l.length : Int) := by omega
      have HF : Hid (PL = P) := hide (by rw [hE.out, HPN.out A (by omega), List.append_nil])
      go_wp2
      go_ret
      rw [HF.out]
      exact ⟨_, xs, rfl, hO.out, hV.out, hB.out⟩
    have hli : (A : Int) < (l.length : Int) := by omega
    have HPA := hide (HPD.out A hlt)
    by_cases h : A + 64 ≤ l.length
    · obtain ⟨xa, xn, xc, hcut, hv⟩ := HCV.out A (A + 64) (by omega) h
      have e1 : ((A + 64 : Nat) : Int) = (A : Int) + 64 := by omega
      have e2 : A + 64 - A = 64 := by omega
      rw [e1] at hcut
      rw [e2] at hv
      have HV := hide hv
      have hmn : (A : Int) + 64 ≤ (l.length : Int) := by omega
      have hmi : min ((A : Int) + 64) (l.length : Int) = (A : Int) + 64 := by omega
      have hmn2 : ¬ (l.length : Int) < (A : Int) + 64 := by omega
      have HSA : Hid (w.heap.size ≤ (wr.alloc (.cells #[.slice xa xn xc] 30)).heap.size) := hide (Nat.le_trans hB.out.size (append_size wr _))
      have HOA : Hid ((wr.alloc (.cells #[.slice xa xn xc] 30)).ownsRow w.heap.size 30 1 _ P.length xs) := hide (World.ownsRow.alloc hO.out _)
      have HCA := hide (one_cells wr (.slice xa xn xc))
      have HYA : Hid (∀ u ∈ [Value.slice xa xn xc], u.oneCell' = true) := hide (fun u hu => by rw [List.mem_singleton.1 hu]; rfl)
      have hPl : P.length + 1 ≤ 1000000 := by omega
      clear hv e1 e2 HPD HCV HPN HTK h
      go_wp2_with (at_builtin; refine wpList_append_vals _ rfl _ _ rfl w.heap.size _ P.length xs rfl HOA.out ⟨wr.heap.size, 0, none⟩ 1 1 [.slice xa xn xc] rfl rfl HCA.out HYA.out hPl HSA.out ?_)
      intro v1 W1 ho1 hb1
      have HO1 := hide ho1
      have HB1 := hide ((hB.out.alloc hB.out.size _).trans hb1)
      clear ho1 hb1
      go_wp2
      go_roundw
      case rel => exact ⟨A + 64, P ++ [(l.drop A).take 64], xs ++ [.slice xa xn xc], by go_num, by simp; omega, by omega, hide (by rw [List.length_append, List.length_singleton]; exact HO1.out), hide (hV.out.snoc rfl HV.out), hide (by rw [hE.out, HPA.out, List.append_assoc]; rfl), HB1⟩
      case measure => simp [intOf]; omega
    · obtain ⟨xa, xn, xc, hcut, hv⟩ := HCV.out A l.length (by omega) (Nat.le_refl _)
      rw [HTK.out A (by omega)] at hv
      have HV := hide hv
      have hmn : (l.length : Int) < (A : Int) + 64 := by omega
      have hmi : min ((A : Int) + 64) (l.length : Int) = (l.length : Int) := by omega
      have hmn2 : ¬ (A : Int) + 64 ≤ (l.length : Int) := by omega
      have HSA : Hid (w.heap.size ≤ (wr.alloc (.cells #[.slice xa xn xc] 30)).heap.size) := hide (Nat.le_trans hB.out.size (append_size wr _))
      have HOA : Hid ((wr.alloc (.cells #[.slice xa xn xc] 30)).ownsRow w.heap.size 30 1 _ P.length xs) := hide (World.ownsRow.alloc hO.out _)
      have HCA := hide (one_cells wr (.slice xa xn xc))
      have HYA : Hid (∀ u ∈ [Value.slice xa xn xc], u.oneCell' = true) := hide (fun u hu => by rw [List.mem_singleton.1 hu]; rfl)
      have hPl : P.length + 1 ≤ 1000000 := by omega
      clear hv HPD HCV HPN HTK h
      go_wp2_with (at_builtin; refine wpList_append_vals _ rfl _ _ rfl w.heap.size _ P.length xs rfl HOA.out ⟨wr.heap.size, 0, none⟩ 1 1 [.slice xa xn xc] rfl rfl HCA.out HYA.out hPl HSA.out ?_)
      intro v1 W1 ho1 hb1
      have HO1 := hide ho1
      have HB1 := hide ((hB.out.alloc hB.out.size _).trans hb1)
      clear ho1 hb1
      go_wp2
      go_roundw
      case rel => exact ⟨A + 64, P ++ [(l.drop A).take 64], xs ++ [.slice xa xn xc], by go_num, by simp; omega, by omega, hide (by rw [List.length_append, List.length_singleton]; exact HO1.out), hide (hV.out.snoc rfl HV.out), hide (by rw [hE.out, HPA.out, List.append_assoc]; rfl), HB1⟩
      case measure => simp [intOf]; omega

set_option maxRecDepth 100000 in
set_option maxHeartbeats 1000000 in
theorem manifestOf_any (i : Int) (v : Value) (l : List UInt8) (w : World) (hr : Rd w v l) :
    Calls Try.prog 22 #[.int .i64 i, v] w fun e w' => e = .returned (.agg #[.int .i64 i, .int .i64 (l.length : Int), .int .u32 ((crcMore 0 l : Nat) : Int)]) ∧ Below w.heap.size w w' := by
  have HB0 : Hid (∀ X, Below w.heap.size w (w.alloc X)) := fun X => (Below.refl _ _).alloc (Nat.le_refl _) X
  have HS := hide (fun W (h : Below w.heap.size w W) => sum_any v l W (hr.below h (Nat.le_refl _)))
  obtain ⟨ao, cap, rfl, -⟩ := hr
  generalize crcMore 0 l = m at *
  obtain ⟨M, hM⟩ : ∃ M : Int, M = (m : Int) := ⟨_, rfl⟩
  rw [← hM] at HS ⊢
  clear hM
  have HX : Hid (∀ cs, (w.alloc (.cells cs 54)).heap[w.heap.size]? = some (.cells cs 54 (0, 0))) := fun cs => heap_alloc_new w _
  go_enter Try.func22, Try.ntmps22
  go_wp2_with fail
  refine (HS.out _ (HB0.out _)).mono ?_
  rintro x W1 ⟨rfl, hb1⟩
  have HB1 := hide ((HB0.out _).trans (hb1.mono (HB0.out _).size))
  have hx := (hb1.block w.heap.size (by simp)).trans (HX.out _)
  have z0 := cell_of_row W1 w.heap.size 0 _ _ _ hx
  have z1 := cell_of_row W1 w.heap.size 1 _ _ _ hx
  have z2 := cell_of_row W1 w.heap.size 2 _ _ _ hx
  have f0 := frozen_of_row W1 w.heap.size 0 _ _ hx
  have f1 := frozen_of_row W1 w.heap.size 1 _ _ hx
  have f2 := frozen_of_row W1 w.heap.size 2 _ _ hx
  clear hb1 hx
  go_wp2
  refine bodyPost_ret (v := .agg #[.int .i64 i, .int .i64 (l.length : Int), .int .u32 M]) (by simp [results, Try.results22, go_sem, z0, z1, z2]) rfl ?_
  exact ⟨rfl, ((HB1.out.setCell (Nat.le_refl _) _).setCell (Nat.le_refl _) _).setCell (Nat.le_refl _) _⟩

end Go.Proofs.Ytanmjihiceibbaa
