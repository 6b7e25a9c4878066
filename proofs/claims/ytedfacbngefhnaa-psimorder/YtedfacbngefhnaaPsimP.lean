/- The engine that copies: what is shared, new. -/
import Derived.Test.YtedfacbngefhnaaPsimO
import Derived.Laws.MakeOwn
namespace Go.Proofs.Ytedfacbngefhnaa
open Go.RowKit Go.Maps

def mach0 (n : Nat) : Mc := cellsM (cellsM (newM (n : Int)) 1) (n : Int)

theorem cellsF_zero (s : Nat) : ∀ i n, cellsF (fun _ => List.replicate s (Value.int .i64 0)) i n = List.replicate (n * s) (Value.int .i64 0)
  | _, 0 => by simp [cellsF]
  | i, n + 1 => by
    rw [cellsF, cellsF_zero s (i + 1) n, List.replicate_append_replicate, Nat.succ_mul, Nat.add_comm]

theorem info_op3 : (Try.prog.info? 26).map (fun i => (i.zero, i.size, i.bytes)) = some (some (.agg #[.int .i64 0, .int .i64 0, .int .i64 0]), 3, 24) := by kernel_rfl

theorem made_zero (z : Array Value) (m : Nat) (hz : ∀ j, j < z.size → z[j]! = .int .i64 0) (h0 : 0 < z.size) : madeCells z m = (List.replicate m (Value.int .i64 0)).toArray := by
  apply Array.ext'
  apply List.ext_getElem?
  intro i
  by_cases hi : i < m
  · simp only [madeCells, Array.toList_map, Array.toList_range, List.getElem?_map, List.getElem?_range hi, Option.map_some, List.getElem?_replicate, if_pos hi]
    exact congrArg some (hz (i % z.size) (Nat.mod_lt _ h0))
  · simp [madeCells, hi]

set_option maxRecDepth 100000 in
theorem run_make_an (w : World) (n : Nat) (hn : n ≤ 1000) : (Instr.makeSlice 67 (.int .i64 (n : Int)) (.int .i64 (n : Int))).run Try.prog w = .ok (.slice (some ⟨w.heap.size, 0, none⟩) n n) (w.alloc (.cells (anC (fun _ => an0) n).toArray 91)) := by
  obtain ⟨i0, hi, hz0, hz1, hz2⟩ := info_parts info_an
  have h := run_make (P := Try.prog) w 67 91 i0 _ Try.underlying67 hi hz0 .i64 .i64 (n : Int) (n : Int) (by omega) (Int.le_refl _) (by rw [hz2]; omega) (by omega)
  rw [Int.toNat_natCast, hz1] at h
  have e : madeCells (Value.agg #[.int .i64 0, .int .i64 0]).cells (n * 2) = (anC (fun _ => an0) n).toArray := by
    have e1 : anC (fun _ => an0) n = List.replicate (n * 2) (Value.int .i64 0) := cellsF_zero 2 0 n
    rw [e1]
    exact made_zero #[.int .i64 0, .int .i64 0] (n * 2) (fun j hj => by
      match j, hj with
      | 0, _ | 1, _ => rfl) (by decide)
  rw [e] at h
  exact h

set_option maxRecDepth 100000 in
theorem run_make_op (w : World) (n : Nat) (hn : n ≤ 1000) : (Instr.makeSlice 74 (.int .i64 (n : Int)) (.int .i64 (n : Int))).run Try.prog w = .ok (.slice (some ⟨w.heap.size, 0, none⟩) n n) (w.alloc (.cells (opC (fun _ => op0) n).toArray 26)) := by
  obtain ⟨i0, hi, hz0, hz1, hz2⟩ := info_parts info_op3
  have h := run_make (P := Try.prog) w 74 26 i0 _ Try.underlying74 hi hz0 .i64 .i64 (n : Int) (n : Int) (by omega) (Int.le_refl _) (by rw [hz2]; omega) (by omega)
  rw [Int.toNat_natCast, hz1] at h
  have e : madeCells (Value.agg #[.int .i64 0, .int .i64 0, .int .i64 0]).cells (n * 3) = (opC (fun _ => op0) n).toArray := by
    have e1 : opC (fun _ => op0) n = List.replicate (n * 3) (Value.int .i64 0) := cellsF_zero 3 0 n
    rw [e1]
    exact made_zero #[.int .i64 0, .int .i64 0, .int .i64 0] (n * 3) (fun j hj => by
      match j, hj with
      | 0, _ | 1, _ | 2, _ => rfl) (by decide)
  rw [e] at h
  exact h

/-- What is shared, new: all its blocks lie from B on. -/
structure NewL (B : Nat) (w : World) (l m mc ms : Nat) (ov av sv : Value) (n : Nat) (s : St) : Prop where
  list : Bk 76 w l (lsC n m sv av (.slice none 0 0) ov (.slice none 0 0) s)
  ops : w.ownsRow B 26 3 ov n (opC (fun _ => op0) n)
  last : w.ownsRow B 91 2 av n (anC (fun _ => an0) n)
  st : OwnI w B sv s.L
  mac : MacL w m mc ms (mach0 n) 0
  ge : B ≤ l ∧ B ≤ m ∧ B ≤ mc ∧ B ≤ ms

theorem NewL.below {B : Nat} {w w' : World} {l m mc ms : Nat} {ov av sv : Value} {n : Nat} {s : St} (h : NewL B w l m mc ms ov av sv n s) (hb : Below w.heap.size w w') : NewL B w' l m mc ms ov av sv n s :=
  ⟨h.list.keep (hb.block _ h.list.lt), ownsRow_keep h.ops fun _ hg => hb.block _ (row_bk h.ops hg).choose_spec.lt, ownsRow_keep h.last fun _ hg => hb.block _ (row_bk h.last hg).choose_spec.lt, h.st.below hb (Nat.le_refl _), h.mac.keep (hb.block _ h.mac.head.lt) (hb.block _ h.mac.cells.lt) (hb.block _ h.mac.steps.lt), h.ge⟩

theorem row_mono {w : World} {B base n s : Nat} {t : TypeId} {v : Value} {xs : List Value} (h : w.ownsRow B t s v n xs) (hB : base ≤ B) : w.ownsRow base t s v n xs := by
  obtain ⟨h1, h2⟩ := h
  refine ⟨h1, ?_⟩
  rcases h2 with h2 | ⟨g, cap, cur, hv, hb, r⟩
  · exact .inl h2
  · exact .inr ⟨g, cap, cur, hv, by omega, r⟩

theorem row_up {w : World} {B n s : Nat} {t : TypeId} {v : Value} {xs : List Value} (h : w.ownsRow 0 t s v n xs) (hB : ∀ g, v.ownBlock = some g → B ≤ g) : w.ownsRow B t s v n xs := by
  obtain ⟨h1, h2⟩ := h
  refine ⟨h1, ?_⟩
  rcases h2 with h2 | ⟨g, cap, cur, hv, hb, r⟩
  · exact .inl h2
  · exact .inr ⟨g, cap, cur, hv, hB g (by rw [hv]; rfl), r⟩

theorem cells_len (M : Mc) {n : Int} (h : 1 ≤ n ∧ n ≤ 1048576) : (cellsM M n).len = M.len + n.toNat := by unfold cellsM; rw [if_pos h]

theorem cells_rest (M : Mc) (n : Int) : (cellsM M n).procs = M.procs ∧ (cellsM M n).c = M.c ∧ (cellsM M n).s = M.s := by unfold cellsM; split <;> exact ⟨rfl, rfl, rfl⟩

theorem mach0_rel (s : St) {n : Nat} (h1 : 1 ≤ n) (h2 : n ≤ 64) : HRel (newEg s n) (mach0 n) := by
  have r1 := cells_rest (newM (n : Int)) 1
  have r2 := cells_rest (cellsM (newM (n : Int)) 1) (n : Int)
  have hc : (mach0 n).c = fun _ => 0 := r2.2.1.trans r1.2.1
  have hs : (mach0 n).s = fun _ => 0 := r2.2.2.trans r1.2.2
  have hp : (mach0 n).procs = (n : Int) := r2.1.trans r1.1
  have hl : (mach0 n).len = n + 1 := by
    unfold mach0
    rw [cells_len _ ⟨by omega, by omega⟩, cells_len _ ⟨by omega, by omega⟩]
    show 0 + _ + _ = _
    simp
    omega
  exact ⟨hp, hl, by rw [hc]; rfl, fun p _ => by rw [hc]; rfl, fun p _ => by rw [hs]; rfl⟩

theorem row_made (w : World) {B : Nat} (hB : B ≤ w.heap.size) (e : TypeId) (s n : Nat) (xs : List Value) (hx : xs.length = n * s) (hn : n ≤ 1000000) : (w.alloc (.cells xs.toArray e)).ownsRow B e s (.slice (some ⟨w.heap.size, 0, none⟩) n n) n xs :=
  ⟨hx, .inr ⟨w.heap.size, n, xs.toArray, rfl, hB, heap_alloc_new w _, Nat.le_refl _, by unfold maxLen; omega, by simpa using hx, by
    rw [← hx]
    simp⟩⟩

theorem opC_length (f : Nat → Opn) (n : Nat) : (opC f n).length = n * 3 := cellsF_length (c := fun i => opL (f i)) (s := 3) (fun _ => rfl) 0 n

/-- What is there ahead of the cells. -/
structure PreL (B : Nat) (W2 W4 : World) (lb mb mc ms ob n : Nat) : Prop where
  list : Bk 76 W4 lb #[.int .i64 (n : Int), ptr mb, .int .i64 0, .int .i64 0, .int .i64 0, .slice none 0 0, .bool false, .int .i64 0, .slice none 0 0, .slice none 0 0, .slice (some ⟨ob, 0, none⟩) n n, .slice none 0 0]
  mac : MacL W4 mb mc ms (newM (n : Int)) 0
  ops : W4.ownsRow B 26 3 (.slice (some ⟨ob, 0, none⟩) n n) n (opC (fun _ => op0) n)
  below : Below W2.heap.size W2 W4
  ge : B ≤ lb ∧ B ≤ mb ∧ B ≤ mc ∧ B ≤ ms
  ne : lb ≠ mb

theorem preL1 {B : Nat} {W2 W3 W4 : World} {mb n : Nat} (hB : B ≤ W2.heap.size) (hn : n ≤ 1000000) (hm3 : Mac (fun k => k < W2.drew.heap.size) W3 mb (newM (n : Int)) 0) (hb3 : Below W2.drew.heap.size W2.drew W3)
    (hW4 : W4 = (W3.alloc (.cells (opC (fun _ => op0) n).toArray 26)).alloc (.cells #[.int .i64 (n : Int), ptr mb, .int .i64 0, .int .i64 0, .int .i64 0, .slice none 0 0, .bool false, .int .i64 0, .slice none 0 0, .slice none 0 0, .slice (some ⟨W3.heap.size, 0, none⟩) n n, .slice none 0 0] 76)) :
    ∃ mc ms, PreL B W2 W4 (W3.heap.size + 1) mb mc ms W3.heap.size n := by
  obtain ⟨mc, ms, hmm, k1, k2, k3⟩ := hm3
  have e0 : W2.drew.heap.size = W2.heap.size := rfl
  have hs := hb3.size
  rw [e0] at k1 k2 k3 hs
  have e1 : (W3.alloc (.cells (opC (fun _ => op0) n).toArray 26)).heap.size = W3.heap.size + 1 := by simp
  refine ⟨mc, ms, ⟨by rw [hW4, ← e1]; exact heap_alloc_new _ _, by rw [hW4]; exact (hmm.alloc _).alloc _, ?_, ?_, by omega, by have := hmm.head.lt; omega⟩⟩
  · rw [hW4]
    exact World.ownsRow.alloc (row_made W3 (by omega) _ _ _ _ (opC_length _ _) hn) _
  · rw [hW4]
    have a : Below W2.heap.size W2 W2.drew := (Below.refl _ W2).drew
    exact ((a.trans hb3).alloc (by omega) _).alloc (by rw [e1]; omega) _

theorem preL2 {B : Nat} {W2 W3 W4 : World} {mb n : Nat} (hB : B ≤ W2.heap.size) (hn : n ≤ 1000000) (hm3 : Mac (fun k => k < (W2.drew.alloc (.cells (opC (fun _ => op0) n).toArray 26)).heap.size) W3 mb (newM (n : Int)) 0)
    (hb3 : Below (W2.drew.alloc (.cells (opC (fun _ => op0) n).toArray 26)).heap.size (W2.drew.alloc (.cells (opC (fun _ => op0) n).toArray 26)) W3)
    (hW4 : W4 = W3.alloc (.cells #[.int .i64 (n : Int), ptr mb, .int .i64 0, .int .i64 0, .int .i64 0, .slice none 0 0, .bool false, .int .i64 0, .slice none 0 0, .slice none 0 0, .slice (some ⟨W2.heap.size, 0, none⟩) n n, .slice none 0 0] 76)) :
    ∃ mc ms, PreL B W2 W4 W3.heap.size mb mc ms W2.heap.size n := by
  obtain ⟨mc, ms, hmm, k1, k2, k3⟩ := hm3
  have e1 : (W2.drew.alloc (.cells (opC (fun _ => op0) n).toArray 26)).heap.size = W2.heap.size + 1 := by simp
  have hs := hb3.size
  have k1' : ¬ mb < W2.heap.size + 1 := by rw [← e1]; exact k1
  have k2' : ¬ mc < W2.heap.size + 1 := by rw [← e1]; exact k2
  have k3' : ¬ ms < W2.heap.size + 1 := by rw [← e1]; exact k3
  have r0 : (W2.drew.alloc (.cells (opC (fun _ => op0) n).toArray 26)).ownsRow B 26 3 (.slice (some ⟨W2.heap.size, 0, none⟩) n n) n (opC (fun _ => op0) n) := row_made W2.drew hB _ _ _ _ (opC_length _ _) hn
  refine ⟨mc, ms, ⟨by rw [hW4]; exact heap_alloc_new _ _, by rw [hW4]; exact hmm.alloc _, ?_, ?_, by omega, by have := hmm.head.lt; omega⟩⟩
  · rw [hW4]
    exact World.ownsRow.alloc (ownsRow_keep r0 fun g hg => hb3.block g (row_bk r0 hg).choose_spec.lt) _
  · rw [hW4]
    have a : Below W2.heap.size W2 (W2.drew.alloc (.cells (opC (fun _ => op0) n).toArray 26)) := ((Below.refl _ W2).drew).alloc (by exact Nat.le_refl _) _
    have b := a.trans (hb3.mono (by omega))
    exact b.alloc (by omega) _

/-- What it answers. -/
def NewDidL (w : World) (s : St) (n : Nat) (r : Ending) (w' : World) : Prop :=
  ∃ l m mc ms ov av sv, r = .returned (ptr l) ∧ NewL w.heap.size w' l m mc ms ov av sv n s ∧ Below w.heap.size w w'

theorem newL_fin {w W8 : World} {lb mb mc ms ob n cc : Nat} {ca : Option Addr} {kind eng : Int} {shut : Bool} {ls : List Int} (l8 : Bk 76 W8 lb #[.int .i64 (n : Int), ptr mb, .int .i64 0, .int .i64 1, .int .i64 0, .slice none 0 0, .bool false, .int .i64 0, .slice none 0 0, .slice none 0 0, .slice (some ⟨ob, 0, none⟩) n n, .slice none 0 0])
    (m8 : MacL W8 mb mc ms (mach0 n) 0) (op8 : W8.ownsRow w.heap.size 26 3 (.slice (some ⟨ob, 0, none⟩) n n) n (opC (fun _ => op0) n)) (oi8 : OwnI W8 w.heap.size (.slice ca ls.length cc) ls) (bw8 : Below w.heap.size w W8)
    (hml : lb ≠ mb ∧ lb ≠ mc ∧ lb ≠ ms) (ge : w.heap.size ≤ lb ∧ w.heap.size ≤ mb ∧ w.heap.size ≤ mc ∧ w.heap.size ≤ ms) (hn : n ≤ 1000000) :
    NewL w.heap.size (((((((W8.alloc (.cells (anC (fun _ => an0) n).toArray 91)).setCell ⟨lb, 4, none⟩ (.int .i64 kind)).setCell ⟨lb, 5, none⟩ (.slice ca ls.length cc)).setCell ⟨lb, 6, none⟩ (.bool shut)).setCell ⟨lb, 7, none⟩ (.int .i64 eng)).setCell ⟨lb, 8, none⟩ (.slice (some ⟨W8.heap.size, 0, none⟩) n n)).setCell ⟨lb, 9, none⟩ (.slice none 0 0)).drew lb mb mc ms (.slice (some ⟨ob, 0, none⟩) n n) (.slice (some ⟨W8.heap.size, 0, none⟩) n n) (.slice ca ls.length cc) n ⟨kind, ls, shut, eng⟩ ∧ Below w.heap.size w (((((((W8.alloc (.cells (anC (fun _ => an0) n).toArray 91)).setCell ⟨lb, 4, none⟩ (.int .i64 kind)).setCell ⟨lb, 5, none⟩ (.slice ca ls.length cc)).setCell ⟨lb, 6, none⟩ (.bool shut)).setCell ⟨lb, 7, none⟩ (.int .i64 eng)).setCell ⟨lb, 8, none⟩ (.slice (some ⟨W8.heap.size, 0, none⟩) n n)).setCell ⟨lb, 9, none⟩ (.slice none 0 0)).drew := by
  have o6 := only_six (W8.alloc (.cells (anC (fun _ => an0) n).toArray 91)) lb 4 5 6 7 8 9 (.int .i64 kind) (.slice ca ls.length cc) (.bool shut) (.int .i64 eng) (.slice (some ⟨W8.heap.size, 0, none⟩) n n) (.slice none 0 0)
  have b9 : Below W8.heap.size W8 (W8.alloc (.cells (anC (fun _ => an0) n).toArray 91)) := (Below.refl _ _).alloc (Nat.le_refl _) _
  have hs8 := bw8.size
  have l9 := l8.keep (b9.block _ l8.lt)
  have l10 := (((((l9.set 4 (.int .i64 kind)).set 5 (.slice ca ls.length cc)).set 6 (.bool shut)).set 7 (.int .i64 eng)).set 8 (.slice (some ⟨W8.heap.size, 0, none⟩) n n)).set 9 (.slice none 0 0)
  have la := row_made W8 hs8 91 2 n (anC (fun _ => an0) n) (anC_length _ _) hn
  obtain ⟨W10, hW10⟩ : ∃ W10, W10 = ((((((W8.alloc (.cells (anC (fun _ => an0) n).toArray 91)).setCell ⟨lb, 4, none⟩ (.int .i64 kind)).setCell ⟨lb, 5, none⟩ (.slice ca ls.length cc)).setCell ⟨lb, 6, none⟩ (.bool shut)).setCell ⟨lb, 7, none⟩ (.int .i64 eng)).setCell ⟨lb, 8, none⟩ (.slice (some ⟨W8.heap.size, 0, none⟩) n n)).setCell ⟨lb, 9, none⟩ (.slice none 0 0) := ⟨_, rfl⟩
  rw [← hW10] at o6 l10 ⊢
  obtain ⟨W9, hW9⟩ : ∃ W9, W9 = W8.alloc (.cells (anC (fun _ => an0) n).toArray 91) := ⟨_, rfl⟩
  rw [← hW9] at o6 l9 la b9
  clear hW10 hW9
  have o8 : Only (fun j => j = lb) W8 W10 := (Only.ofBelow b9).trans o6 fun _ _ a => a
  have hops : W10.ownsRow w.heap.size 26 3 (.slice (some ⟨ob, 0, none⟩) n n) n (opC (fun _ => op0) n) := ownsRow_keep op8 fun g hg => by
    obtain ⟨c, hb⟩ := row_bk op8 hg
    exact o8.block g hb.lt (hb.ne l8 (by decide))
  have hlast : W10.ownsRow w.heap.size 91 2 (.slice (some ⟨W8.heap.size, 0, none⟩) n n) n (anC (fun _ => an0) n) := ownsRow_keep la fun g hg => by
    obtain ⟨c, hb⟩ := row_bk la hg
    exact o6.block g hb.lt (hb.ne l9 (by decide))
  have hst : OwnI W10 w.heap.size (.slice ca ls.length cc) ls := ownsRow_keep oi8 fun g hg => by
    obtain ⟨c, hb⟩ := row_bk oi8 hg
    exact o8.block g hb.lt (hb.ne l8 (by decide))
  have hmac : MacL W10 mb mc ms (mach0 n) 0 := m8.keep (o8.block _ m8.head.lt hml.1.symm) (o8.block _ m8.cells.lt hml.2.1.symm) (o8.block _ m8.steps.lt hml.2.2.symm)
  have hl : Bk 76 W10 lb (lsC n mb (.slice ca ls.length cc) (.slice (some ⟨W8.heap.size, 0, none⟩) n n) (.slice none 0 0) (.slice (some ⟨ob, 0, none⟩) n n) (.slice none 0 0) ⟨kind, ls, shut, eng⟩) := l10
  have hb : Below w.heap.size W8 W10 := o8.below hs8 fun k hk => by rw [hk]; exact ge.1
  exact ⟨NewL.below ⟨hl, hops, hlast, hst, hmac, ge⟩ ((Below.refl _ _).drew), (bw8.trans hb).drew⟩

set_option maxRecDepth 100000 in
set_option maxHeartbeats 2000000 in
theorem newShared_any {w : World} {v : Value} {s : St} (hs : StV w v s) (hlen : s.L.length ≤ 1000000) {n : Nat} (h1 : 1 ≤ n) (h2 : n ≤ 64) :
    Calls Try.prog 25 #[v, .int .i64 (n : Int)] w fun r w' => NewDidL w s n r w' := by
  obtain ⟨vl, rfl, hr, hki, hei⟩ := hs
  obtain ⟨kind, ls, shut, eng⟩ := s
  dsimp only at hr hlen hki hei ⊢
  obtain ⟨B, hB⟩ : ∃ B, B = w.heap.size := ⟨_, rfl⟩
  have HB := hide hB
  have HCL : Hid (∀ W, Below w.heap.size w W → Calls Try.prog 33 #[vl] W fun e w' => ∃ v', e = .returned v' ∧ OwnI w' W.heap.size v' ls ∧ Below W.heap.size W w') := hide fun W h => cloneI_any vl ls W (hr.below h (Nat.le_refl _)) (by omega)
  have HN : Hid (∀ W : World, Calls Try.prog 36 #[.int .i64 (n : Int)] W fun e w' => ∃ p, e = .returned (ptr p) ∧ W.heap.size ≤ p ∧ Mac (fun k => k < W.heap.size) w' p (newM (n : Int)) 0 ∧ Below W.heap.size W w') := hide fun W => newM_any (n : Int) W ⟨by omega, by omega⟩
  obtain ⟨C, hC⟩ : ∃ C : Int, C = (n : Int) := ⟨_, rfl⟩
  have hrv : ∃ a nn c, vl = .slice a nn c := by
    obtain ⟨a, c, hv, _⟩ := hr
    exact ⟨a, _, c, hv⟩
  obtain ⟨va, vn, vc, rfl⟩ := hrv
  have HBA : Hid (Below w.heap.size w (w.alloc (.cells #[.int .i64 kind, .slice va vn vc, .bool shut, .int .i64 eng] 24))) := hide ((Below.refl _ _).alloc (Nat.le_refl _) _)
  have HX0 : Hid (Bk 24 (w.alloc (.cells #[.int .i64 kind, .slice va vn vc, .bool shut, .int .i64 eng] 24)) w.heap.size #[.int .i64 kind, .slice va vn vc, .bool shut, .int .i64 eng]) := hide (heap_alloc_new _ _)
  have hsz : (w.alloc (.cells #[.int .i64 kind, .slice va vn vc, .bool shut, .int .i64 eng] 24)).heap.size = w.heap.size + 1 := by simp
  have HSZ := hide hsz
  have HN1 : Hid (n ≤ 1000000) := hide (by omega)
  have hmk := fun W => run_make_op W n (by omega)
  have hmk2 := fun W => run_make_an W n (by omega)
  clear hr hlen hki hei hsz
  go_enter Try.func25, Try.ntmps25
  go_wp2_with fail
  refine (HCL.out _ HBA.out).mono ?_
  rintro r W1 ⟨v1, rfl, ho1, hb1⟩
  have hx1 := HX0.out.keep (hb1.block _ HX0.out.lt)
  have HX1 := hide hx1
  have HB1 := hide (HBA.out.trans (hb1.mono HBA.out.size))
  have HO1 := hide ho1
  obtain ⟨ca, cc, rfl⟩ := ho1.shape
  obtain ⟨x1, f1⟩ := hx1.cell 1 rfl
  clear hx1 ho1 hb1 HX0
  go_upto_region 2 with fail
  obtain ⟨W2, hW2⟩ : ∃ W2, W2 = W1.setCell ⟨w.heap.size, 1, none⟩ (.slice ca ls.length cc) := ⟨_, rfl⟩
  rw [← hW2]
  have hX2 : Bk 24 W2 w.heap.size #[.int .i64 kind, .slice ca ls.length cc, .bool shut, .int .i64 eng] := by rw [hW2]; exact HX1.out.set 1 _
  have HX2 := hide hX2
  have HB2 : Hid (Below w.heap.size w W2) := hide (by rw [hW2]; exact HB1.out.setCell (Nat.le_refl _) _)
  have HO2 : Hid (OwnI W2 w.heap.size (.slice ca ls.length cc) ls) := hide (by
    rw [hW2]
    have h3 : OwnI (W1.setCell ⟨w.heap.size, 1, none⟩ (.slice ca ls.length cc)) _ (.slice ca ls.length cc) ls := ownsRow_keep HO1.out fun g hg => Below.heap_setCell _ _ _ _ (by
      have := HO1.out.fresh g hg
      rw [HSZ.out] at this
      show g ≠ w.heap.size
      omega)
    exact h3.mono (by rw [HSZ.out]; omega))
  have HXD : Hid (∀ W, Below W2.heap.size W2 W → W.cell? ⟨w.heap.size, 0, none⟩ = some (.int .i64 kind) ∧ W.cell? ⟨w.heap.size, 1, none⟩ = some (.slice ca ls.length cc) ∧ W.cell? ⟨w.heap.size, 2, none⟩ = some (.bool shut) ∧ W.cell? ⟨w.heap.size, 3, none⟩ = some (.int .i64 eng)) := hide fun W hb => by
    have hx := HX2.out.keep (hb.block _ HX2.out.lt)
    exact ⟨(hx.cell 0 rfl).1, (hx.cell 1 rfl).1, (hx.cell 2 rfl).1, (hx.cell 3 rfl).1⟩
  have HD2 := hide ((Below.refl W2.heap.size W2).drew)
  have HN2 := hide (HN.out W2.drew)
  have HS2 := hide (HXD.out _ HD2.out)
  clear hW2 hX2 x1 f1 HX1 HO1 HB1
  go_region_with
    (first | (go_at_call 36; refine (HN.out _).mono ?_; rintro r W3 ⟨mb, rfl, hge, hm3, hb3⟩; have HG3 := hide hge; have HM3 := hide hm3; have HB3 := hide hb3; clear hge hm3 hb3))
  all_goals
    go_upto_region 3 with fail
    first
    | (obtain ⟨W4, hW4⟩ : ∃ W4, W4 = (W3.alloc (.cells (opC (fun _ => op0) n).toArray 26)).alloc (.cells #[.int .i64 (n : Int), ptr mb, .int .i64 0, .int .i64 0, .int .i64 0, .slice none 0 0, .bool false, .int .i64 0, .slice none 0 0, .slice none 0 0, .slice (some ⟨W3.heap.size, 0, none⟩) n n, .slice none 0 0] 76) := ⟨_, rfl⟩
       obtain ⟨mc, ms, hp⟩ := preL1 HB2.out.size HN1.out HM3.out HB3.out hW4
       obtain ⟨lb, hlb⟩ : ∃ lb, lb = W3.heap.size + 1 := ⟨_, rfl⟩
       obtain ⟨ob, hob⟩ : ∃ ob, ob = W3.heap.size := ⟨_, rfl⟩
       rw [← hW4]
       rw [← hlb, ← hob] at hp ⊢
       have HP := hide hp
       clear hW4 hlb hob hp HM3 HB3 HG3)
    | (obtain ⟨W4, hW4⟩ : ∃ W4, W4 = W3.alloc (.cells #[.int .i64 (n : Int), ptr mb, .int .i64 0, .int .i64 0, .int .i64 0, .slice none 0 0, .bool false, .int .i64 0, .slice none 0 0, .slice none 0 0, .slice (some ⟨W2.heap.size, 0, none⟩) n n, .slice none 0 0] 76) := ⟨_, rfl⟩
       obtain ⟨mc, ms, hp⟩ := preL2 HB2.out.size HN1.out HM3.out HB3.out hW4
       obtain ⟨lb, hlb⟩ : ∃ lb, lb = W3.heap.size := ⟨_, rfl⟩
       obtain ⟨ob, hob⟩ : ∃ ob, ob = W2.heap.size := ⟨_, rfl⟩
       rw [← hW4]
       rw [← hlb, ← hob] at hp ⊢
       have HP := hide hp
       clear hW4 hlb hob hp HM3 HB3 HG3)
  all_goals
    have HXW4 : Hid (Bk 24 W4 w.heap.size #[.int .i64 kind, .slice ca ls.length cc, .bool shut, .int .i64 eng]) := hide (HX2.out.keep (HP.out.below.block _ HX2.out.lt))
    have HO4 : Hid (OwnI W4 w.heap.size (.slice ca ls.length cc) ls) := hide (HO2.out.below HP.out.below (Nat.le_refl _))
    have HML := hide (And.intro HP.out.ne (And.intro (HP.out.mac.cells.apart HP.out.list) (HP.out.mac.steps.apart HP.out.list)))
    have HC4 : Hid (Calls Try.prog 37 #[ptr mb, .int .i64 1] W4 fun e w' => e = .returned (.int .i64 0) ∧ MacL w' mb mc ms (cellsM (newM (n : Int)) 1) 0 ∧ Only (fun k => k = mb) W4 w') := hide (cellsM_any HP.out.mac 1 (by show 0 + _ ≤ _; simp))
    have d1 := (HP.out.list.cell 1 rfl).1
    go_wp2_with fail
    refine HC4.out.mono ?_
    rintro r W5 ⟨rfl, hm5, ho5⟩
    have hL5 := HP.out.list.only ho5 HML.out.1
    obtain ⟨W6, hW6⟩ : ∃ W6, W6 = W5.setCell ⟨lb, 2, none⟩ (.int .i64 0) := ⟨_, rfl⟩
    have hm6 : MacL W6 mb mc ms (cellsM (newM (n : Int)) 1) 0 := by rw [hW6]; exact hm5.keep (Below.heap_setCell _ _ _ _ HML.out.1.symm) (Below.heap_setCell _ _ _ _ HML.out.2.1.symm) (Below.heap_setCell _ _ _ _ HML.out.2.2.symm)
    have hL6 := hL5.set 2 (.int .i64 0)
    rw [← hW6] at hL6
    have ho6 : Only (fun k => k = mb ∨ k = lb) W4 W6 := by rw [hW6]; exact (ho5.mono fun _ k => .inl k).setCell 2 (fun _ => .inr rfl) _
    have HO6 := hide ho6
    have HL6 := hide hL6
    obtain ⟨d2', e2'⟩ := hL5.cell 2 rfl
    have HC6 : Hid (Calls Try.prog 37 #[ptr mb, .int .i64 (n : Int)] W6 fun e w' => e = .returned (.int .i64 1) ∧ MacL w' mb mc ms (mach0 n) 0 ∧ Only (fun k => k = mb) W6 w') := hide (by
      have hl1 : ((cellsM (newM (n : Int)) 1).len : Int) = 1 := by
        rw [cells_len _ ⟨by omega, by omega⟩]
        rfl
      have := cellsM_any hm6 (n : Int) (by rw [cells_len _ ⟨by omega, by omega⟩]; show 0 + _ + _ ≤ _; simp; omega)
      rw [hl1] at this
      exact this)
    have d6 := (hL6.cell 1 rfl).1
    clear hm5 ho5 hm6 hL5 hL6 ho6 HC4 d1
    go_upto_region 4 with fail
    rw [← hW6]
    clear hW6 d2' e2'
    go_wp2_with fail
    refine HC6.out.mono ?_
    rintro r W7 ⟨rfl, hm7, ho7⟩
    have hL7 := HL6.out.only ho7 HML.out.1
    obtain ⟨W8, hW8⟩ : ∃ W8, W8 = W7.setCell ⟨lb, 3, none⟩ (.int .i64 1) := ⟨_, rfl⟩
    have hm8 : MacL W8 mb mc ms (mach0 n) 0 := by rw [hW8]; exact hm7.keep (Below.heap_setCell _ _ _ _ HML.out.1.symm) (Below.heap_setCell _ _ _ _ HML.out.2.1.symm) (Below.heap_setCell _ _ _ _ HML.out.2.2.symm)
    have hL8 := hL7.set 3 (.int .i64 1)
    rw [← hW8] at hL8
    have ho8 : Only (fun k => k = mb ∨ k = lb) W4 W8 := by
      rw [hW8]
      exact (HO6.out.trans (ho7.mono fun _ k => .inl k) fun _ _ k => k).setCell 3 (fun _ => .inr rfl) _
    have HM8 := hide hm8
    have HL8 := hide hL8
    have HO8 := hide ho8
    obtain ⟨d7, e7⟩ := hL7.cell 3 rfl
    have HX8 : Hid (Bk 24 W8 w.heap.size #[.int .i64 kind, .slice ca ls.length cc, .bool shut, .int .i64 eng]) := hide (HXW4.out.only ho8 fun a => a.elim (HXW4.out.ne HP.out.mac.head (by decide)) (HXW4.out.ne HP.out.list (by decide)))
    have HOI8 : Hid (OwnI W8 w.heap.size (.slice ca ls.length cc) ls) := hide (ownsRow_keep HO4.out fun g hg => by
      obtain ⟨c, hb⟩ := row_bk HO4.out hg
      exact ho8.block g hb.lt fun a => a.elim (hb.ne HP.out.mac.head (by decide)) (hb.ne HP.out.list (by decide)))
    have HOP8 : Hid (W8.ownsRow w.heap.size 26 3 (.slice (some ⟨ob, 0, none⟩) n n) n (opC (fun _ => op0) n)) := hide (ownsRow_keep HP.out.ops fun g hg => by
      obtain ⟨c, hb⟩ := row_bk HP.out.ops hg
      exact ho8.block g hb.lt fun a => a.elim (hb.ne HP.out.mac.head (by decide)) (hb.ne HP.out.list (by decide)))
    have HBW8 : Hid (Below w.heap.size w W8) := hide (by
      have a : Below w.heap.size w W4 := HB2.out.trans (HP.out.below.mono HB2.out.size)
      have b : Below w.heap.size W4 W8 := ho8.below a.size fun k hk => by
        rcases hk with hk | hk
        · rw [hk]; exact HP.out.ge.2.1
        · rw [hk]; exact HP.out.ge.1
      exact a.trans b)
    clear hm7 ho7 hL7 hm8 hL8 ho8 d6 HC6
    go_upto_region 5 with fail
    rw [← hW8]
    clear hW8 d7 e7
    obtain ⟨x0, -⟩ := HX8.out.cell 0 rfl
    obtain ⟨x1', -⟩ := HX8.out.cell 1 rfl
    obtain ⟨x2, -⟩ := HX8.out.cell 2 rfl
    obtain ⟨x3, -⟩ := HX8.out.cell 3 rfl
    have HK8 : Hid (∀ X j, (∃ z, ((#[.int .i64 (n : Int), ptr mb, .int .i64 0, .int .i64 1, .int .i64 0, .slice none 0 0, .bool false, .int .i64 0, .slice none 0 0, .slice none 0 0, .slice (some ⟨ob, 0, none⟩) n n, .slice none 0 0] : Array Value))[j]? = some z) → (W8.alloc X).frozen? ⟨lb, j, none⟩ = false ∧ ∃ z, (W8.alloc X).cell? ⟨lb, j, none⟩ = some z) := hide fun X j ⟨z, hz⟩ => by
      have hb : Bk 76 (W8.alloc X) lb _ := HL8.out.keep (Below.heap_alloc _ _ _ HL8.out.lt)
      exact ⟨(hb.cell j hz).2, z, (hb.cell j hz).1⟩
    have HFIN : Hid (∀ r, r = .returned (ptr lb) → NewDidL w ⟨kind, ls, shut, eng⟩ n r (((((((W8.alloc (.cells (anC (fun _ => an0) n).toArray 91)).setCell ⟨lb, 4, none⟩ (.int .i64 kind)).setCell ⟨lb, 5, none⟩ (.slice ca ls.length cc)).setCell ⟨lb, 6, none⟩ (.bool shut)).setCell ⟨lb, 7, none⟩ (.int .i64 eng)).setCell ⟨lb, 8, none⟩ (.slice (some ⟨W8.heap.size, 0, none⟩) n n)).setCell ⟨lb, 9, none⟩ (.slice none 0 0)).drew) := hide fun r hr => by
      have h := newL_fin (kind := kind) (shut := shut) (eng := eng) HL8.out HM8.out HOP8.out HOI8.out HBW8.out HML.out HP.out.ge HN1.out
      exact ⟨lb, mb, mc, ms, _, _, _, hr, h.1, h.2⟩
    have hbX : Bk 24 (W8.alloc (.cells (anC (fun _ => an0) n).toArray 91)) w.heap.size #[.int .i64 kind, .slice ca ls.length cc, .bool shut, .int .i64 eng] := HX8.out.keep (Below.heap_alloc _ _ _ HX8.out.lt)
    obtain ⟨y0, -⟩ := hbX.cell 0 rfl
    obtain ⟨y1, -⟩ := hbX.cell 1 rfl
    obtain ⟨y2, -⟩ := hbX.cell 2 rfl
    obtain ⟨y3, -⟩ := hbX.cell 3 rfl
    clear hbX
    obtain ⟨f4, z4, k4⟩ := HK8.out (.cells (anC (fun _ => an0) n).toArray 91) 4 ⟨_, rfl⟩
    obtain ⟨f5, z5, k5⟩ := HK8.out (.cells (anC (fun _ => an0) n).toArray 91) 5 ⟨_, rfl⟩
    obtain ⟨f6, z6, k6⟩ := HK8.out (.cells (anC (fun _ => an0) n).toArray 91) 6 ⟨_, rfl⟩
    obtain ⟨f7, z7, k7⟩ := HK8.out (.cells (anC (fun _ => an0) n).toArray 91) 7 ⟨_, rfl⟩
    obtain ⟨f8, z8, k8⟩ := HK8.out (.cells (anC (fun _ => an0) n).toArray 91) 8 ⟨_, rfl⟩
    obtain ⟨f9, z9, k9⟩ := HK8.out (.cells (anC (fun _ => an0) n).toArray 91) 9 ⟨_, rfl⟩
    go_region
    all_goals
      go_wp2
      go_ret
      exact HFIN.out _ rfl

end Go.Proofs.Ytedfacbngefhnaa
