import Derived.Test.YtpopbandpnaicaaGreatDoorPack2
import Derived.Maps.AppendAt
import Derived.Test.YtpopbandpnaicaaGreatDoorPack1
import Derived.Deep.QuietTactic
import Derived.BigQuiet
import Derived.Deep.DeepCutAuto
import Derived.Deep.RegionLaw
import Derived.Lib.LazyBuf
import Derived.ChangeSlices
import Derived.Deep.Slices
import Derived.WideShapes
import Derived.Sort.OwnSortedInts
import Derived.Deep.RegionHeld
namespace Go.Proofs.YtpopbandpnaicaaGreatDoor
set_option maxRecDepth 100000
open Go.RowKit

theorem on_any {F : Nat -> Prop} {p : Nat} {L : Lay} {d : Dk} {u : Int} {N : Nat} (w : World) (h : DiskL F w p L d u N) :
   Calls Tryz.prog 37 #[ptr p] w fun e w' => e = .returned (.bool (d.power != 0)) ∧ w' = w := by
 obtain ⟨⟨-, -, -, -, -, c5⟩, -⟩ := h.cells
 go_enter Tryz.func37, Tryz.ntmps37
 go_wp2
 go_ret
 exact ⟨rfl, rfl⟩

theorem mayBe_any (n : Int) (w : World) :
   Calls Tryz.prog 68 #[.int .i64 n] w fun e w' => e = .returned (.bool (mayN n)) ∧ w' = w := by
 by_cases h1 : 0 <= n
 · by_cases h2 : n < 1048576
   · have e : mayN n = true := by simp [mayN, h1, h2]
     rw [e]
     go_enter Tryz.func68, Tryz.ntmps68
     go_wp2
     go_ret
     exact ⟨ret_bool (by simp), rfl⟩
   · have e : mayN n = false := by simp [mayN, h1, h2]
     rw [e]
     go_enter Tryz.func68, Tryz.ntmps68
     go_wp2
     go_ret
     exact ⟨ret_bool (by simp), rfl⟩
 · have e : mayN n = false := by simp [mayN, h1]
   rw [e]
   go_enter Tryz.func68, Tryz.ntmps68
   go_wp2
   go_ret
   exact ⟨rfl, rfl⟩

theorem share_any (a : Int) (n : Nat) (hn : n <= 1000000000000000) (w : World) :
   Calls Tryz.prog 79 #[.int .i64 a, .int .i64 (n : Int)] w fun e w' => e = .returned (.int .i64 (shareN a n : Int)) ∧ w' = w := by
 obtain ⟨M, hM⟩ : ∃ M : Int, M = (n : Int) := ⟨_, rfl⟩
 by_cases h : a < 0
 · have e : shareN a n = 0 := by simp [shareN, h]
   rw [e, <- hM]
   clear hM
   go_enter Tryz.func79, Tryz.ntmps79
   go_wp2
   go_ret
   exact ⟨rfl, rfl⟩
 · have h1 := Int.emod_nonneg a (show M + 1 ≠ 0 by omega)
   have e : ((shareN a n : Nat) : Int) = a % (M + 1) := by
     rw [hM] at h1 ⊢
     rw [shareN, if_neg h]
     omega
   rw [e, <- hM]
   have hb : 0 <= M ∧ M <= 1000000000000000 := by omega
   clear e h1 hM hn n
   go_enter Tryz.func79, Tryz.ntmps79
   go_wp2
   go_ret
   exact ⟨rfl, rfl⟩

theorem powerCut_any (q n : Int) (w : World) :
   Calls Tryz.prog 72 #[.int .i64 q, .int .i64 n] w fun e w' => e = .returned (.int .i64 (if q = 0 then 0 else max n 0)) ∧ w' = w := by
 by_cases h : q = 0
 · rw [if_pos h]
   subst h
   go_enter Tryz.func72, Tryz.ntmps72
   go_wp2
   go_ret
   exact ⟨rfl, rfl⟩
 · rw [if_neg h]
   have e : (q == 0) = false := by simpa using h
   clear h
   go_enter Tryz.func72, Tryz.ntmps72
   go_wp2
   go_ret
   exact ⟨rfl, rfl⟩

theorem done_any {F : Nat -> Prop} {p : Nat} {L : Lay} {d : Dk} {u : Int} {N : Nat} (w : World) (h : DiskL F w p L d u N) (hp : I64 d.power) :
   Calls Tryz.prog 71 #[ptr p] w fun e w' => e = .returned (.int .i64 0) ∧ DiskL F w' p L { d with power := tickD d.power } u N ∧ Only F w w' := by
 have H := hide h
 obtain ⟨⟨-, -, -, -, -, c5⟩, -, -, -, f5⟩ := h.cells
 obtain ⟨hp1, hp2⟩ := hp
 obtain ⟨q, hq⟩ : ∃ q, q = d.power := ⟨_, rfl⟩
 rw [<- hq] at c5 hp1 hp2 ⊢
 by_cases hg : q > 0
 · have HE : Hid (tickD q = q - 1) := if_pos hg
   have HQ := hide hq
   clear h hq
   go_enter Tryz.func71, Tryz.ntmps71
   go_wp2
   go_ret
   refine ⟨rfl, ?_, (Only.refl _ _).setCell 5 (fun _ => H.out.fh) _⟩
   refine H.out.setHead 5 _ ⟨rfl, rfl, rfl⟩ ?_
   rw [HE.out]
   rfl
 · have HE : Hid (tickD q = q) := if_neg hg
   have HQ := hide hq
   clear h hq
   go_enter Tryz.func71, Tryz.ntmps71
   go_wp2
   go_ret
   rw [HE.out, HQ.out]
   exact ⟨rfl, H.out, Only.refl _ _⟩

theorem cutF_any {F : Nat -> Prop} {p : Nat} {d : Dk} {N T : Nat} (n : Int) (hn : I64 n) (w : World) (h : Dsk F w p d N T) :
   Calls Tryz.prog 31 #[ptr p, .int .i64 n] w fun e w' => e = .returned (.tuple #[]) ∧ Dsk F w' p (cutD d n) N T ∧ Only F w w' := by
 obtain ⟨L, h, hok, hbn, hrm, hpw⟩ := h
 have H := hide h
 have HC := hide (And.intro hok (And.intro hbn (And.intro hrm hpw)))
 have HN := hide hn
 obtain ⟨⟨-, -, -, -, -, c5⟩, -, -, -, f5⟩ := h.cells
 obtain ⟨q, hq⟩ : ∃ q, q = d.power := ⟨_, rfl⟩
 have HQ := hide hq
 rw [<- hq] at c5
 clear h hok hbn hrm hpw hq hn
 have HP := hide (powerCut_any q n w)
 obtain ⟨r, hr⟩ : ∃ r, r = (if q = 0 then (0 : Int) else max n 0) := ⟨_, rfl⟩
 rw [<- hr] at HP
 have HR := hide hr
 clear hr
 go_enter Tryz.func31, Tryz.ntmps31
 go_wp2_with fail
 refine HP.out.mono ?_
 rintro e w' ⟨rfl, rfl⟩
 go_wp2
 go_end0
 refine ⟨rfl, ⟨L, ?_, OkD.cut HC.out.1 n, ⟨HC.out.2.1.files, HC.out.2.1.names, HC.out.2.1.bytes⟩, HC.out.2.2.1, ?_⟩, (Only.refl _ _).setCell 5 (fun _ => H.out.fh) _⟩
 · refine H.out.setHead 5 _ ⟨rfl, rfl, rfl⟩ ?_
   rw [HR.out, HQ.out]
   rfl
 · obtain ⟨h1, h2⟩ := HN.out
   unfold cutD I64
   dsimp only
   split <;> omega

theorem newDisk (w : World) (room : Int) (hr : I64 room) : Dsk (fun k => w.heap.size <= k ∧ k < (((w.alloc (.map #[] 0)).alloc (.map #[] 0)).alloc (.cells #[.int .i64 room, .int .i64 0, .map (some w.heap.size), .map (some (w.heap.size + 1)), .slice none 0 0, .int .i64 (-1)] 73)).heap.size)
   (((w.alloc (.map #[] 0)).alloc (.map #[] 0)).alloc (.cells #[.int .i64 room, .int .i64 0, .map (some w.heap.size), .map (some (w.heap.size + 1)), .slice none 0 0, .int .i64 (-1)] 73)) (w.heap.size + 1 + 1) (newD room) 0 0 := by
 have m1 := MapP.made w
 obtain ⟨W1, h1⟩ : ∃ W1, W1 = w.alloc (.map #[] 0) := ⟨_, rfl⟩
 have s1 : W1.heap.size = w.heap.size + 1 := by rw [h1]; simp
 rw [<- h1] at m1 ⊢
 have m2 := MapP.made W1
 have k1 := m1.keep (w' := W1.alloc (.map #[] 0)) (Below.heap_alloc _ _ _ (by omega))
 obtain ⟨W2, h2⟩ : ∃ W2, W2 = W1.alloc (.map #[] 0) := ⟨_, rfl⟩
 have s2 : W2.heap.size = w.heap.size + 1 + 1 := by rw [h2]; simp [s1]
 rw [<- h2] at m2 k1 ⊢
 rw [s1] at m2
 obtain ⟨A, hA⟩ : ∃ A : Array Value, A = #[.int .i64 room, .int .i64 0, .map (some w.heap.size), .map (some (w.heap.size + 1)), .slice none 0 0, .int .i64 (-1)] := ⟨_, rfl⟩
 rw [<- hA]
 have k2 := m2.keep (w' := W2.alloc (.cells A 73)) (Below.heap_alloc _ _ _ (by omega))
 have k3 := k1.keep (w' := W2.alloc (.cells A 73)) (Below.heap_alloc _ _ _ (by omega))
 have hb : Bk 73 (W2.alloc (.cells A 73)) W2.heap.size A := heap_alloc_new W2 _
 rw [s2] at hb
 have s3 : (W2.alloc (.cells A 73)).heap.size = w.heap.size + 1 + 1 + 1 := by simp [s2]
 obtain ⟨W3, h3⟩ : ∃ W3, W3 = W2.alloc (.cells A 73) := ⟨_, rfl⟩
 rw [<- h3] at k2 k3 hb s3 ⊢
 refine ⟨⟨w.heap.size, w.heap.size + 1, .slice none 0 0, [], fun _ => 0, fun _ => .slice none 0 0⟩, ⟨by rw [hA] at hb; exact hb, ?_, ⟨by omega, by omega⟩, fun k hk => hk.2⟩, okD_new room, ⟨Nat.le_refl _, Nat.le_refl _, (fun x hx => by cases hx)⟩, hr, ⟨by show (-9223372036854775808 : Int) <= -1; omega, by show (-1 : Int) <= 9223372036854775807; omega⟩⟩
 refine ⟨k3, k2, World.ownsRow_nil _ _ _ _, rfl, (fun i c v h => by simp [newD] at h), (fun i hi => absurd hi (Nat.not_lt_zero _)), (fun i j hi => absurd hi (Nat.not_lt_zero _)), (fun i j hi => absurd hi (Nat.not_lt_zero _)), (by show w.heap.size ≠ w.heap.size + 1; omega), ⟨by show w.heap.size <= w.heap.size; omega, by show w.heap.size < _; omega⟩, ⟨by show w.heap.size <= w.heap.size + 1; omega, by show w.heap.size + 1 < _; omega⟩, (fun g hg => by cases hg), (fun i hi => absurd hi (Nat.not_lt_zero _)), (fun i hi => absurd hi (Nat.not_lt_zero _))⟩

theorem new_any (room : Int) (hr : I64 room) (w : World) :
   Calls Tryz.prog 11 #[.int .i64 room] w fun e w' => ∃ p, e = .returned (ptr p) ∧ Dsk (fun k => w.heap.size <= k ∧ k < w'.heap.size) w' p (newD room) 0 0 ∧ Below w.heap.size w w' := by
 have HR := hide hr
 clear hr
 have hmm := @run_makeMap Tryz.prog
 go_enter Tryz.func11, Tryz.ntmps11
 go_wp2
 go_ret
 exact ⟨_, rfl, newDisk w room HR.out, (((Below.refl _ w).alloc (Nat.le_refl _) _).alloc (by simp) _).alloc (by simp; omega) _⟩

theorem find_any {F : Nat -> Prop} {p : Nat} {L : Lay} {d : Dk} {u : Int} {N : Nat} (n : Int) (hn : I64 n) (w : World) (h : DiskL F w p L d u N) :
   Calls Tryz.prog 106 #[ptr p, .int .i64 n] w fun e w' => e = .returned (.tuple #[ptrO (if d.power = 0 then none else (look (dirD d) n).map L.ps), .int .i64 (if d.power = 0 then 11 else if (look (dirD d) n).isSome then 0 else 8)]) ∧ w' = w := by
 have HO := hide (on_any w h)
 obtain ⟨⟨-, -, c2, -, -, -⟩, -⟩ := h.cells
 have hl := h.rest.now.look hn
 obtain ⟨q, hq⟩ : ∃ q, q = d.power := ⟨_, rfl⟩
 obtain ⟨o, ho⟩ : ∃ o, o = look (dirD d) n := ⟨_, rfl⟩
 rw [<- ho] at hl
 rw [<- hq] at HO
 rw [<- hq, <- ho]
 clear h hq ho hn
 by_cases h0 : q = 0
 · subst h0
   go_enter Tryz.func106, Tryz.ntmps106
   go_wp2_with fail
   refine HO.out.mono ?_
   rintro e w' ⟨rfl, rfl⟩
   go_wp2
   go_ret2
   exact ⟨rfl, rfl⟩
 · rw [if_neg h0, if_neg h0]
   have e0 : (q != 0) = true := by simpa using h0
   rw [e0] at HO
   clear h0 e0
   cases o with
   | none =>
     have hl' : (Instr.lookup 69 (.map (some L.now)) (.int .i64 n) true).run Tryz.prog w = .ok (.tuple #[.pointer none, .bool false]) w := hl
     clear hl
     go_enter Tryz.func106, Tryz.ntmps106
     go_wp2_with fail
     refine HO.out.mono ?_
     rintro e w' ⟨rfl, rfl⟩
     go_wp2
     go_ret2
     exact ⟨rfl, rfl⟩
   | some f =>
     have hl' : (Instr.lookup 69 (.map (some L.now)) (.int .i64 n) true).run Tryz.prog w = .ok (.tuple #[.pointer (some ⟨L.ps f, 0, none⟩), .bool true]) w := hl
     clear hl
     obtain ⟨x, hx⟩ : ∃ x, x = L.ps f := ⟨_, rfl⟩
     have e1 : ptrO (Option.map L.ps (some f)) = .pointer (some ⟨x, 0, none⟩) := by rw [hx]; rfl
     rw [<- hx] at hl'
     rw [e1]
     clear hx e1
     go_enter Tryz.func106, Tryz.ntmps106
     go_wp2_with fail
     refine HO.out.mono ?_
     rintro e w' ⟨rfl, rfl⟩
     go_wp2
     go_ret2
     exact ⟨rfl, rfl⟩

def Gr (F : Nat -> Prop) (w w' : World) (k : Nat) : Prop := F k ∨ (w.heap.size <= k ∧ k < w'.heap.size)

theorem Gr.lt {F : Nat -> Prop} {w w' : World} (hs : w.heap.size <= w'.heap.size) (hF : ∀ k, F k -> k < w.heap.size) : ∀ k, Gr F w w' k -> k < w'.heap.size := by
 rintro k (h | h)
 · have := hF k h; omega
 · exact h.2

theorem give_any (n : Int) (x : Nat) (w : World) :
   Calls Tryz.prog 70 #[.int .i64 n, ptr x] w fun e w' => e = .returned (.func (.func 111) #[] #[ptr (w.heap.size + 1), ptr w.heap.size]) ∧ w' = (w.alloc (.cells #[.int .i64 n] 3)).alloc (.cells #[ptr x] 109) := by
 have hmf : ∀ (fn : Fn) (first cap : Array Value) (w : World), (Instr.makeFunc fn first cap).run Tryz.prog w = .ok (.func fn first cap) w := fun _ _ _ _ => rfl
 go_enter Tryz.func70, Tryz.ntmps70
 go_wp2
 go_ret
 exact ⟨rfl, rfl⟩

theorem mayF_i64 {n : Int} (h : mayN n = true) : I64 n := by
 simp only [mayN, Bool.and_eq_true, decide_eq_true_eq] at h
 exact ⟨by omega, by omega⟩

def Changed (w : World) (b N : Nat) (ps : Nat -> Nat) (g : Int -> Option Nat) (c : Ch) (e : Ending) (w' : World) : Prop :=
 e = .returned (.tuple #[]) ∧ MapP w' b (N + 1) (fun n => (chF g c n).map ps) ∧ w.grownBy w' (some b)

theorem wpList_delete_P (w : World) {ops : Array Oper} {rest : List Oper} {o : Oper} {a : Act} {Q : Exit -> Act -> World -> Prop} (hgd : o.guard = none) (m x : Operand)
   (ho : o.op = .call { callee := .builtin .delete, args := #[m, x], argTypes := #[69, 3] })
   (b N : Nat) (f : Int -> Option Nat) (p : Int) (hm : a.eval m = .map (some b)) (hx : a.eval x = .int .i64 p) (hown : MapP w b N f) (hp : I64 p)
   (h : ∀ w', MapP w' b N (fun m => if m = p then none else f m) -> w.grownBy w' (some b) -> wpList Tryz.prog ops Q rest (a.put o.dst (.tuple #[])) w') : wpList Tryz.prog ops Q (o :: rest) a w :=
 wpList_plain hgd fun _ hK => by
   obtain ⟨w', hrun, h2, h3⟩ := hown.del hp o.type
   unfold Oper.wp execOp
   simp only [ho, resolve, invoke, builtin, Sem.run_bind, Sem.run_pure, Result.andThen_ok, List.map_toArray, List.map_cons, List.map_nil, hm, hx, hrun]
   exact hK _ _ (h w' h2 h3)

theorem wpList_clear_P (w : World) {ops : Array Oper} {rest : List Oper} {o : Oper} {a : Act} {Q : Exit -> Act -> World -> Prop} (hgd : o.guard = none) (m : Operand)
   (ho : o.op = .call { callee := .builtin .clear, args := #[m], argTypes := #[69] })
   (b N : Nat) (f : Int -> Option Nat) (hm : a.eval m = .map (some b)) (hown : MapP w b N f)
   (h : ∀ w', MapP w' b 0 (fun _ => none) -> w.grownBy w' (some b) -> wpList Tryz.prog ops Q rest (a.put o.dst (.tuple #[])) w') : wpList Tryz.prog ops Q (o :: rest) a w :=
 wpList_plain hgd fun _ hK => by
   obtain ⟨w', hrun, h2, h3⟩ := hown.clear o.type
   unfold Oper.wp execOp
   simp only [ho, resolve, invoke, builtin, Sem.run_bind, Sem.run_pure, Result.andThen_ok, List.map_toArray, List.map_cons, List.map_nil, hm, hrun]
   exact hK _ _ (h w' h2 h3)

theorem grownBy_two {a b c : World} {r : Nat} (h : a.grownBy b (some r)) (k : b.grownBy c (some r)) : a.grownBy c (some r) := h.andThen k (fun _ hj => .inr hj)

theorem giveC_any {n : Int} {f : Nat} (hn : mayN n = true) {b1 b2 b N : Nat} {ps : Nat -> Nat} {g : Int -> Option Nat} (w : World) (h1 : Bk 3 w b1 #[.int .i64 n]) (h2 : Bk 109 w b2 #[ptr (ps f)]) (hm : MapP w b N (fun n => (g n).map ps)) (hN : N <= 10000000) :
   Calls Tryz.prog 111 #[.map (some b), ptr b2, ptr b1] w fun e w' => Changed w b N ps g (.give n f) e w' := by
 obtain ⟨w1, hrun, hm1, hg1⟩ := hm.put (p := n) (ps f) (mayF_i64 hn) hN
 have HM : Hid (MapP w1 b (N + 1) (fun n' => (chF g (.give n f) n').map ps)) := hide (hm1.fun fun q _ => by
   show (if q = n then some (ps f) else (g q).map ps) = (if q = n then some f else g q).map ps
   split <;> rfl)
 have HG := hide hg1
 obtain ⟨c1, -⟩ := h1.cell 0 rfl
 obtain ⟨c2, -⟩ := h2.cell 0 rfl
 obtain ⟨x, hx⟩ : ∃ x, x = ps f := ⟨_, rfl⟩
 rw [<- hx] at hrun c2
 clear hm1 hg1 hm h1 h2 hx hn hN
 go_enter Tryz.func111, Tryz.ntmps111
 go_wp2
 go_end0
 exact ⟨rfl, HM.out, HG.out⟩

theorem moveC_any {n tz : Int} {f : Nat} (hn : mayN n = true) (hto : mayN tz = true) {b1 b2 b3 b N : Nat} {ps : Nat -> Nat} {g : Int -> Option Nat} (w : World) (h1 : Bk 3 w b1 #[.int .i64 n]) (h2 : Bk 3 w b2 #[.int .i64 tz]) (h3 : Bk 109 w b3 #[ptr (ps f)]) (hm : MapP w b N (fun n => (g n).map ps)) (hN : N <= 10000000) :
   Calls Tryz.prog 146 #[.map (some b), ptr b3, ptr b2, ptr b1] w fun e w' => Changed w b N ps g (.move n tz f) e w' := by
 obtain ⟨w1, hrun, hm1, hg1⟩ := hm.put (p := tz) (ps f) (mayF_i64 hto) hN
 obtain ⟨c2, -⟩ := h2.cell 0 rfl
 obtain ⟨c3, -⟩ := h3.cell 0 rfl
 obtain ⟨d1, -⟩ := (h1.keep (hg1.block b1 h1.lt (by intro e; exact (h1.neMap hm) (Option.some.inj e)))).cell 0 rfl
 have HM := hide hm1
 have HN := hide hn
 have HC : Hid (∀ w2, MapP w2 b (N + 1) (fun m => if m = n then none else if m = tz then some (ps f) else (g m).map ps) -> w1.grownBy w2 (some b) -> Changed w b N ps g (.move n tz f) (.returned (.tuple #[])) w2) := hide (fun w2 hm2 hg2 => by
   refine ⟨rfl, hm2.fun fun q _ => ?_, grownBy_two hg1 hg2⟩
   show (if q = n then none else if q = tz then some (ps f) else (g q).map ps) = (if q = n then none else if q = tz then some f else g q).map ps
   split
   · rfl
   · split <;> rfl)
 obtain ⟨x, hx⟩ : ∃ x, x = ps f := ⟨_, rfl⟩
 rw [<- hx] at hrun c3
 clear hm1 hg1 hm h1 h2 h3 hx hn hto hN
 go_enter Tryz.func146, Tryz.ntmps146
 go_wp2_with (first | (at_delete; refine wpList_delete_P _ rfl _ _ rfl b _ _ n rfl rfl HM.out (mayF_i64 HN.out) ?_; intro w2 hm2 hg2))
 go_end0
 exact HC.out _ hm2 hg2

theorem takeC_any {n : Int} (hn : mayN n = true) {b1 b N : Nat} {ps : Nat -> Nat} {g : Int -> Option Nat} (w : World) (h1 : Bk 3 w b1 #[.int .i64 n]) (hm : MapP w b N (fun n => (g n).map ps)) :
   Calls Tryz.prog 160 #[.map (some b), ptr b1] w fun e w' => Changed w b N ps g (.take n) e w' := by
 obtain ⟨c1, -⟩ := h1.cell 0 rfl
 have HM := hide hm
 have HN := hide hn
 clear hm hn h1
 go_enter Tryz.func160, Tryz.ntmps160
 go_wp2_with (first | (at_delete; refine wpList_delete_P _ rfl _ _ rfl b _ _ n rfl rfl HM.out (mayF_i64 HN.out) ?_; intro w2 hm2 hg2))
 go_end0
 refine ⟨rfl, (hm2.mono (Nat.le_succ _)).fun fun q _ => ?_, hg2⟩
 show (if q = n then none else (g q).map ps) = (if q = n then none else g q).map ps
 split <;> rfl

theorem info_ch : (Tryz.prog.info? 115).map (fun i => (i.zero, i.size, i.bytes)) = some (some .nilFunc, 1, 8) := by kernel_rfl

theorem run_append_ch (w : World) (ty : TypeId) (v : Value) (cs : List Value) (h : w.ownsRow 0 115 1 v cs.length cs) (fn : Fn) (c0 c1 : Array Value) (hlim : cs.length <= 10000000) :
   ∃ v' w', (Builtin.append_ #[71, 71] ty #[v, .slice (some ⟨w.heap.size, 0, none⟩) 1 1]).run Tryz.prog (w.alloc (.cells #[.func fn c0 c1] 115)) = .ok v' w' ∧
     w'.ownsRow 0 115 1 v' (cs ++ [Value.func fn c0 c1]).length (cs ++ [Value.func fn c0 c1]) ∧ (w.alloc (.cells #[.func fn c0 c1] 115)).grownBy w' v.ownBlock ∧ (v'.ownBlock = v.ownBlock ∨ v'.ownBlock = some (w.heap.size + 1)) := by
 obtain ⟨i0, hi, hz0, hz1, hz2⟩ := info_parts info_ch
 obtain ⟨v', w', hrun, ho, hg, _, hl⟩ := run_append_own_at (P := Tryz.prog) (w.alloc (.cells #[.func fn c0 c1] 115)) 0 71 ty 115 i0 .nilFunc 1 8 Tryz.underlying71 hi hz0 hz1 hz2 rfl (by decide) v cs.length cs (World.ownsRow.alloc h _)
   ⟨w.heap.size, 0, none⟩ 1 1 [.func fn c0 c1] rfl (fun j u hj => by
     match j, hj with
     | 0, hj => simp at hj; subst hj; simp [Addr.add]) (fun u hu => by simp at hu; subst hu; rfl) (by unfold maxLen; omega) (by omega) (Nat.zero_le _)
 refine ⟨v', w', hrun, ?_, hg, ?_⟩
 · rw [List.length_append]
   exact ho
 · rcases hl with hl | hl
   · exact .inl hl
   · exact .inr (by rw [hl]; simp)

theorem wpList_append_ch (w : World) {ops : Array Oper} {rest : List Oper} {o : Oper} {a : Act} {Q : Exit -> Act -> World -> Prop} (hgd : o.guard = none) (s x : Operand)
   (ho : o.op = .call { callee := .builtin .append, args := #[s, x], argTypes := #[71, 71] })
   (v : Value) (cs : List Value) (hs : a.eval s = v) (h : w.ownsRow 0 115 1 v cs.length cs) (fn : Fn) (c0 c1 : Array Value) (hx : a.eval x = .slice (some ⟨w.heap.size, 0, none⟩) 1 1) (hlim : cs.length <= 10000000)
   (hK : ∀ v' w', w'.ownsRow 0 115 1 v' (cs ++ [Value.func fn c0 c1]).length (cs ++ [Value.func fn c0 c1]) -> (w.alloc (.cells #[.func fn c0 c1] 115)).grownBy w' v.ownBlock -> (v'.ownBlock = v.ownBlock ∨ v'.ownBlock = some (w.heap.size + 1)) ->
     wpList Tryz.prog ops Q rest (a.put o.dst v') w') : wpList Tryz.prog ops Q (o :: rest) a (w.alloc (.cells #[.func fn c0 c1] 115)) :=
 wpList_plain hgd fun _ hK' => by
   obtain ⟨v', w', hrun, h2, h3, h4⟩ := run_append_ch w o.type v cs h fn c0 c1 hlim
   unfold Oper.wp execOp
   simp only [ho, resolve, invoke, builtin, Sem.run_bind, Sem.run_pure, Result.andThen_ok, List.map_toArray, List.map_cons, List.map_nil, hs, hx, hrun]
   exact hK' _ _ (hK v' w' h2 h3 h4)

theorem okCh_move {m : Nat} {c : Ch} (h : okCh m c) : ∀ n tz f, c = .move n tz f -> n ≠ tz := by
 rintro n tz f rfl
 exact h.2.2.1

theorem dirD_wait (d : Dk) (c : Ch) : dirD { d with waits := d.waits ++ [c] } = chD (dirD d) c := by
 show (d.waits ++ [c]).foldl chD d.kept = _
 rw [List.foldl_append]
 rfl

theorem DiskL.addWait {F : Nat -> Prop} {w w1 w2 : World} {p : Nat} {L : Lay} {d : Dk} {u : Int} {N : Nat} {c : Ch} {fn : Fn} {c0 c1 : Array Value} {v' : Value} (h : DiskL F w p L d u N) (hc : ChV F w L.ps c (.func fn c0 c1)) (hok : OkD d) (hco : okCh d.files.length c)
   (hg1 : w.grownBy w1 (some L.now)) (hm : MapP w1 L.now (N + 1) (fun n => (chF (look (dirD d)) c n).map L.ps))
   (hrow : w2.ownsRow 0 115 1 v' (L.cs ++ [Value.func fn c0 c1]).length (L.cs ++ [Value.func fn c0 c1])) (hg2 : (w1.alloc (.cells #[.func fn c0 c1] 115)).grownBy w2 L.wv.ownBlock) (hv : v'.ownBlock = L.wv.ownBlock ∨ v'.ownBlock = some (w1.heap.size + 1)) :
   DiskL (Gr F w w2) (w2.setCell ⟨p, 4, none⟩ v') p { L with wv := v', cs := L.cs ++ [Value.func fn c0 c1] } { d with waits := d.waits ++ [c] } u (N + 1) ∧ Only F w (w2.setCell ⟨p, 4, none⟩ v') := by
 have h0 := h.rest
 have hs1 := hg1.size
 have hs2 : w1.heap.size + 1 <= w2.heap.size := by have := hg2.size; simpa using this
 have hs3 : (w2.setCell ⟨p, 4, none⟩ v').heap.size = w2.heap.size := by simp
 have hk2 : ∀ k, F k -> k ≠ L.now -> L.wv.ownBlock ≠ some k -> w2.heap[k]? = w.heap[k]? := fun k hf hn hr => by
   have hlt := h.lt k hf
   rw [hg2.block k (by simp; omega) (fun e => hr e.symm), Below.heap_alloc _ _ _ (by omega), hg1.block k hlt (fun e => hn (Option.some.inj e))]
 have hk : ∀ k, F k -> k ≠ L.now -> L.wv.ownBlock ≠ some k -> k ≠ p -> (w2.setCell ⟨p, 4, none⟩ v').heap[k]? = w.heap[k]? := fun k hf hn hr hp => by
   rw [Below.heap_setCell _ _ _ _ hp, hk2 k hf hn hr]
 have hwr : ∀ {t : TypeId} {k : Nat} {cs : Array Value}, Bk t w k cs -> t ≠ 115 -> L.wv.ownBlock ≠ some k := fun hb ht hg => by
   obtain ⟨cs', hb'⟩ := ownBk h0.row hg
   exact (hb.ne hb' ht) rfl
 have hwm : ∀ {k n : Nat} {g : Int -> Option Nat}, MapP w k n g -> L.wv.ownBlock ≠ some k := fun hm hg => by
   obtain ⟨cs', hb'⟩ := ownBk h0.row hg
   exact (hb'.neMap hm) rfl
 have hbk : ∀ {t : TypeId} {k : Nat} {cs : Array Value}, Bk t w k cs -> F k -> t ≠ 115 -> t ≠ 73 -> (w2.setCell ⟨p, 4, none⟩ v').heap[k]? = w.heap[k]? := fun hb hf h1 h2 =>
   hk _ hf (hb.neMap h0.now) (hwr hb h1) (hb.ne h.head h2)
 have hnp : L.now ≠ p := (h.head.neMap h0.now).symm
 have hhead : Bk 73 w2 p (headC L d u) := h.head.keep (hk2 p h.fh hnp.symm (hwr h.head (by decide)))
 have hFn : ∀ g, v'.ownBlock = some g -> Gr F w w2 g := fun g hg => by
   rcases hv with hv | hv
   · exact .inl (h0.fw g (by rw [<- hv]; exact hg))
   · rw [hv] at hg
     obtain rfl := Option.some.inj hg
     exact .inr ⟨by omega, by have := (World.ownsRow.lt hrow _ hv).2; omega⟩
 refine ⟨⟨hhead.set 4 v', ?_, .inl h.fh, fun k hk => ?_⟩, ?_⟩
 · refine ⟨?_, ?_, ?_, ?_, ?_, ?_, h0.psn, h0.vsn, h0.nk, .inl h0.fn, .inl h0.fk, hFn, fun i hi => .inl (h0.fp i hi), fun i hi g hg => .inl (h0.fv i hi g hg)⟩
   · have e : ∀ n, (look (dirD { d with waits := d.waits ++ [c] }) n).map L.ps = (chF (look (dirD d)) c n).map L.ps := fun n => by rw [dirD_wait, look_chD hok.dir.rise c (okCh_move hco)]
     refine (hm.keep (w' := w2.setCell ⟨p, 4, none⟩ v') ?_).fun fun n _ => (e n).symm
     rw [Below.heap_setCell _ _ _ _ hnp, hg2.block L.now (by simp; have := hm.lt; omega) (fun e => hwm h0.now e.symm), Below.heap_alloc _ _ _ hm.lt]
   · exact (h0.kept.mono (Nat.le_succ N)).keep (hk _ h0.fk (Ne.symm h0.nk) (hwm h0.kept) (h.head.neMap h0.kept).symm)
   · exact ownsRow_keep hrow fun g hg => Below.heap_setCell _ _ _ _ (by
       obtain ⟨cs', hb'⟩ := ownBk hrow hg
       exact hb'.ne hhead (by decide))
   · rw [List.length_append, List.length_append, h0.many]
     rfl
   · intro i c' v hi hv2
     have hkeep : ∀ c v, ChV F w L.ps c v -> ChV (Gr F w w2) (w2.setCell ⟨p, 4, none⟩ v') L.ps c v := fun c v hcv => hcv.keep (fun _ hf => .inl hf) (fun _ _ => rfl) fun k cs' hf hb => by
       rcases hb with hb | hb <;> exact hbk hb hf (by decide) (by decide)
     rw [List.getElem?_append] at hi hv2
     rw [h0.many] at hv2
     by_cases hlt : i < d.waits.length
     · rw [if_pos hlt] at hi hv2
       exact hkeep _ _ (h0.wait i c' v hi hv2)
     · rw [if_neg hlt] at hi hv2
       have e0 : i - d.waits.length = 0 := by
         have := (List.getElem?_eq_some_iff.1 hi).1
         simp at this
         omega
       rw [e0] at hi hv2
       simp only [List.getElem?_cons_zero, Option.some.injEq] at hi hv2
       rw [<- hi, <- hv2]
       exact hkeep _ _ hc
   · intro i hi
     refine (h0.file i hi).keep (hbk (h0.file i hi).box (h0.fp i hi) (by decide) (by decide)) fun g hg => ?_
     obtain ⟨cs', hb⟩ := ownBk (h0.file i hi).own hg
     exact hbk hb (h0.fv i hi g hg) (by decide) (by decide)
 · rw [hs3]
   exact Gr.lt (by omega) h.lt k hk
 · have o1 : Only F w w1 := Only.ofGrown hg1 fun k e _ => by obtain rfl := Option.some.inj e; exact h0.fn
   have o2 : Only F (w1.alloc (.cells #[.func fn c0 c1] 115)) w2 := Only.ofGrown hg2 fun k e _ => h0.fw k e
   exact ((o1.alloc _).trans o2 (fun _ _ hf => hf)).setCell 4 (fun _ => h.fh) v'

theorem rowShape {w : World} {base n s : Nat} {t : TypeId} {v : Value} {xs : List Value} (h : w.ownsRow base t s v n xs) : ∃ ao m cp, v = .slice ao m cp := by
 rcases h.2 with ⟨hv, _⟩ | ⟨g, cap, cur, hv, _⟩
 · exact ⟨_, _, _, hv⟩
 · exact ⟨_, _, _, hv⟩

theorem gr_set (F : Nat -> Prop) (w w2 : World) (a : Addr) (v : Value) : Gr F w (w2.setCell a v) = Gr F w w2 := by
 funext k
 simp [Gr]

def Applied (F : Nat -> Prop) (w : World) (p : Nat) (L : Lay) (d : Dk) (u : Int) (N : Nat) (c : Ch) (e : Ending) (w' : World) : Prop :=
 e = .returned (.tuple #[]) ∧ ∃ L', DiskL (Gr F w w') w' p L' { d with waits := d.waits ++ [c] } u (N + 1) ∧ L'.ps = L.ps ∧ L'.vs = L.vs ∧ Only F w w'

set_option maxRecDepth 100000 in
set_option maxHeartbeats 2000000 in
theorem apply_any {F : Nat -> Prop} {p : Nat} {L : Lay} {d : Dk} {u : Int} {N : Nat} {c : Ch} {cv : Value} (w : World) (h : DiskL F w p L d u N) (hc : ChV F w L.ps c cv) (hok : OkD d) (hco : okCh d.files.length c) (hN : N <= 1000000) (hW : d.waits.length <= 1000000) :
   Calls Tryz.prog 69 #[ptr p, cv] w fun e w' => Applied F w p L d u N c e w' := by
 have H := hide h
 have HOK := hide hok
 have HCO := hide hco
 obtain ⟨⟨-, -, c2, -, -, -⟩, -⟩ := h.cells
 have HNP : Hid (L.now ≠ p) := hide (h.head.neMap h.rest.now).symm
 have HWN : Hid (∀ g, L.wv.ownBlock = some g -> g ≠ L.now) := hide (fun g hg => by
   obtain ⟨cs', hb'⟩ := ownBk h.rest.row hg
   exact hb'.neMap h.rest.now)
 clear h hok hco
 cases c with
 | give n f =>
   obtain ⟨b1, b2, rfl, h1, h2, f1, f2⟩ := hc
   have HCH : Hid (ChV F w L.ps (.give n f) (.func (.func 111) #[] #[ptr b2, ptr b1])) := hide ⟨b1, b2, rfl, h1, h2, f1, f2⟩
   have HK := hide (giveC_any (f := f) HCO.out.1 w h1 h2 H.out.rest.now (by omega))
   go_enter Tryz.func69, Tryz.ntmps69
   go_wp2_with fail
   refine HK.out.mono ?_
   rintro e w1 ⟨rfl, hm1, hg1⟩
   have HM1 := hide hm1
   have HG1 := hide hg1
   have h4 := H.out.head.keep (hg1.block p H.out.head.lt (fun e => HNP.out (Option.some.inj e).symm))
   obtain ⟨c4, f4⟩ := h4.cell 4 rfl
   have HR1 : Hid (w1.ownsRow 0 115 1 L.wv L.cs.length L.cs) := hide (ownsRow_keep H.out.rest.row fun g hg => hg1.block g (World.ownsRow.lt H.out.rest.row g hg).2 (fun e => HWN.out g hg (Option.some.inj e)))
   clear hm1 hg1 h4
   have HP4 : Hid (p < w1.heap.size) := hide (Nat.lt_of_lt_of_le H.out.head.lt HG1.out.size)
   go_wp2_with (at_builtin; refine (fun (h : True -> _) => h trivial) ?_)
   intro _
   refine wpList_append_ch w1 rfl _ _ rfl L.wv L.cs rfl HR1.out _ _ _ rfl (by have := H.out.rest.many; omega) ?_
   intro v' w2 hr2 hg2 hv2
   have HR2 := hide hr2
   have HG2 := hide hg2
   have HV2 := hide hv2
   have h5 : Bk 73 w2 p (headC L d u) := (H.out.head.keep (HG1.out.block p H.out.head.lt (fun e => HNP.out (Option.some.inj e).symm))).keep ((hg2.block p (by simp; have := HP4.out; omega) (fun e => by
     obtain ⟨cs', hb'⟩ := ownBk HR1.out e.symm
     exact (hb'.ne (H.out.head.keep (HG1.out.block p H.out.head.lt (fun e => HNP.out (Option.some.inj e).symm))) (by decide)) rfl)).trans (Below.heap_alloc _ _ _ HP4.out))
   obtain ⟨d4, g4⟩ := h5.cell 4 rfl
   obtain ⟨ao, nn, cp, rfl⟩ := rowShape hr2
   clear hr2 hg2 hv2 h5 c4 f4
   go_wp2
   go_end0
   obtain ⟨hd, hon⟩ := H.out.addWait HCH.out HOK.out HCO.out HG1.out HM1.out HR2.out HG2.out HV2.out
   rw [<- gr_set F w w2 ⟨p, 4, none⟩ (.slice ao nn cp)] at hd
   exact ⟨rfl, _, hd, rfl, rfl, hon⟩
 | move n m f =>
   obtain ⟨b1, b2, b3, rfl, h1, h2, h3, f1, f2, f3⟩ := hc
   have HCH : Hid (ChV F w L.ps (.move n m f) (.func (.func 146) #[] #[ptr b3, ptr b2, ptr b1])) := hide ⟨b1, b2, b3, rfl, h1, h2, h3, f1, f2, f3⟩
   have HK := hide (moveC_any (f := f) HCO.out.1 HCO.out.2.1 w h1 h2 h3 H.out.rest.now (by omega))
   go_enter Tryz.func69, Tryz.ntmps69
   go_wp2_with fail
   refine HK.out.mono ?_
   rintro e w1 ⟨rfl, hm1, hg1⟩
   have HM1 := hide hm1
   have HG1 := hide hg1
   have h4 := H.out.head.keep (hg1.block p H.out.head.lt (fun e => HNP.out (Option.some.inj e).symm))
   obtain ⟨c4, f4⟩ := h4.cell 4 rfl
   have HR1 : Hid (w1.ownsRow 0 115 1 L.wv L.cs.length L.cs) := hide (ownsRow_keep H.out.rest.row fun g hg => hg1.block g (World.ownsRow.lt H.out.rest.row g hg).2 (fun e => HWN.out g hg (Option.some.inj e)))
   clear hm1 hg1 h4
   have HP4 : Hid (p < w1.heap.size) := hide (Nat.lt_of_lt_of_le H.out.head.lt HG1.out.size)
   go_wp2_with (at_builtin; refine (fun (h : True -> _) => h trivial) ?_)
   intro _
   refine wpList_append_ch w1 rfl _ _ rfl L.wv L.cs rfl HR1.out _ _ _ rfl (by have := H.out.rest.many; omega) ?_
   intro v' w2 hr2 hg2 hv2
   have HR2 := hide hr2
   have HG2 := hide hg2
   have HV2 := hide hv2
   have h5 : Bk 73 w2 p (headC L d u) := (H.out.head.keep (HG1.out.block p H.out.head.lt (fun e => HNP.out (Option.some.inj e).symm))).keep ((hg2.block p (by simp; have := HP4.out; omega) (fun e => by
     obtain ⟨cs', hb'⟩ := ownBk HR1.out e.symm
     exact (hb'.ne (H.out.head.keep (HG1.out.block p H.out.head.lt (fun e => HNP.out (Option.some.inj e).symm))) (by decide)) rfl)).trans (Below.heap_alloc _ _ _ HP4.out))
   obtain ⟨d4, g4⟩ := h5.cell 4 rfl
   obtain ⟨ao, nn, cp, rfl⟩ := rowShape hr2
   clear hr2 hg2 hv2 h5 c4 f4
   go_wp2
   go_end0
   obtain ⟨hd, hon⟩ := H.out.addWait HCH.out HOK.out HCO.out HG1.out HM1.out HR2.out HG2.out HV2.out
   rw [<- gr_set F w w2 ⟨p, 4, none⟩ (.slice ao nn cp)] at hd
   exact ⟨rfl, _, hd, rfl, rfl, hon⟩
 | take n =>
   obtain ⟨b1, rfl, h1, f1⟩ := hc
   have HCH : Hid (ChV F w L.ps (.take n) (.func (.func 160) #[] #[ptr b1])) := hide ⟨b1, rfl, h1, f1⟩
   have HK := hide (takeC_any HCO.out w h1 H.out.rest.now)
   go_enter Tryz.func69, Tryz.ntmps69
   go_wp2_with fail
   refine HK.out.mono ?_
   rintro e w1 ⟨rfl, hm1, hg1⟩
   have HM1 := hide hm1
   have HG1 := hide hg1
   have h4 := H.out.head.keep (hg1.block p H.out.head.lt (fun e => HNP.out (Option.some.inj e).symm))
   obtain ⟨c4, f4⟩ := h4.cell 4 rfl
   have HR1 : Hid (w1.ownsRow 0 115 1 L.wv L.cs.length L.cs) := hide (ownsRow_keep H.out.rest.row fun g hg => hg1.block g (World.ownsRow.lt H.out.rest.row g hg).2 (fun e => HWN.out g hg (Option.some.inj e)))
   clear hm1 hg1 h4
   have HP4 : Hid (p < w1.heap.size) := hide (Nat.lt_of_lt_of_le H.out.head.lt HG1.out.size)
   go_wp2_with (at_builtin; refine (fun (h : True -> _) => h trivial) ?_)
   intro _
   refine wpList_append_ch w1 rfl _ _ rfl L.wv L.cs rfl HR1.out _ _ _ rfl (by have := H.out.rest.many; omega) ?_
   intro v' w2 hr2 hg2 hv2
   have HR2 := hide hr2
   have HG2 := hide hg2
   have HV2 := hide hv2
   have h5 : Bk 73 w2 p (headC L d u) := (H.out.head.keep (HG1.out.block p H.out.head.lt (fun e => HNP.out (Option.some.inj e).symm))).keep ((hg2.block p (by simp; have := HP4.out; omega) (fun e => by
     obtain ⟨cs', hb'⟩ := ownBk HR1.out e.symm
     exact (hb'.ne (H.out.head.keep (HG1.out.block p H.out.head.lt (fun e => HNP.out (Option.some.inj e).symm))) (by decide)) rfl)).trans (Below.heap_alloc _ _ _ HP4.out))
   obtain ⟨d4, g4⟩ := h5.cell 4 rfl
   obtain ⟨ao, nn, cp, rfl⟩ := rowShape hr2
   clear hr2 hg2 hv2 h5 c4 f4
   go_wp2
   go_end0
   obtain ⟨hd, hon⟩ := H.out.addWait HCH.out HOK.out HCO.out HG1.out HM1.out HR2.out HG2.out HV2.out
   rw [<- gr_set F w w2 ⟨p, 4, none⟩ (.slice ao nn cp)] at hd
   exact ⟨rfl, _, hd, rfl, rfl, hon⟩

def lenO (fs : List Fl) : Option Nat -> Nat
 | some f => (fl fs f).b.length
 | none => 0

theorem sumB_cons (fs : List Fl) (p : Int × Nat) (l : Dir) : sumB fs (p :: l) = (fl fs p.2).b.length + sumB fs l := by simp [sumB]

theorem sumB_nil (fs : List Fl) : sumB fs [] = 0 := rfl

theorem sumB_append (fs : List Fl) (a b : Dir) : sumB fs (a ++ b) = sumB fs a + sumB fs b := by simp [sumB]

theorem sumB_setG (fs : List Fl) (n : Int) (f : Nat) : ∀ (l : Dir) (done : Bool), sumB fs (setG n f done l) = sumB fs (l.filter fun p => decide (p.1 ≠ n)) + (if done then 0 else (fl fs f).b.length)
 | [], done => by cases done <;> simp [setG, sumB]
 | q :: l, done => by
   have ih := sumB_setG fs n f l (done || decide (q.1 > n))
   rw [setG, sumB_append, sumB_append, ih, List.filter_cons]
   by_cases h1 : q.1 > n
   · have h2 : q.1 ≠ n := by omega
     cases done <;> simp [h1, h2, sumB_cons, sumB_nil] <;> omega
   · by_cases h2 : q.1 = n
     · cases done <;> simp [h2, sumB_nil]
     · cases done <;> simp [h1, h2, sumB_cons, sumB_nil] <;> omega

theorem sumB_filter (fs : List Fl) (n : Int) : ∀ l : Dir, RisingD l -> sumB fs (l.filter fun p => decide (p.1 ≠ n)) + lenO fs (look l n) = sumB fs l
 | [], _ => rfl
 | q :: l, h => by
   unfold RisingD at h
   rw [List.pairwise_cons] at h
   rw [List.filter_cons, look]
   by_cases e : q.1 = n
   · have hn : ∀ p ∈ l, p.1 ≠ n := fun p hp => by have := h.1 p hp; omega
     rw [if_pos e, if_neg (by simp [e]), sumB_cons, List.filter_eq_self.2 (fun p hp => by simpa using hn p hp)]
     show _ + (fl fs q.2).b.length = _
     omega
   · rw [if_neg e, if_pos (by simp [e]), sumB_cons, sumB_cons]
     have := sumB_filter fs n l h.2
     omega

theorem sumB_setN (fs : List Fl) {l : Dir} (h : RisingD l) (n : Int) (o : Option Nat) : sumB fs (setN l n o) + lenO fs (look l n) = sumB fs l + lenO fs o := by
 have h1 := sumB_filter fs n l h
 cases o with
 | none => rw [setN, sumB_setG]; show _ = _ + 0; simp only [if_true]; omega
 | some f => rw [setN, sumB_setG]; simp only [Bool.false_eq_true, if_false]; show _ = _ + (fl fs f).b.length; omega

theorem fl_append {fs : List Fl} {f : Nat} (h : f < fs.length) (x : Fl) : fl (fs ++ [x]) f = fl fs f := by
 unfold fl
 simp [List.getD, List.getElem?_append, h]

theorem fl_last (fs : List Fl) (x : Fl) : fl (fs ++ [x]) fs.length = x := by
 unfold fl
 simp [List.getD]

theorem sumB_ext {fs fs' : List Fl} {l : Dir} (h : ∀ p ∈ l, (fl fs' p.2).b.length = (fl fs p.2).b.length) : sumB fs' l = sumB fs l := by
 unfold sumB
 rw [List.map_congr_left h]

theorem sumB_more {fs : List Fl} {l : Dir} (h : ∀ p ∈ l, p.2 < fs.length) (x : Fl) : sumB (fs ++ [x]) l = sumB fs l :=
 sumB_ext fun p hp => by rw [fl_append (h p hp)]

theorem sumB_set {fs : List Fl} {f : Nat} (hf : f < fs.length) (x : Fl) : ∀ {l : Dir}, Apart l -> (∃ n, (n, f) ∈ l) -> sumB (fs.set f x) l + (fl fs f).b.length = sumB fs l + x.b.length
 | [], _, ⟨_, h⟩ => by cases h
 | q :: l, ha, ⟨n, h⟩ => by
   unfold Apart at ha
   rw [List.pairwise_cons] at ha
   rw [sumB_cons, sumB_cons]
   by_cases e : q.2 = f
   · have hn : sumB (fs.set f x) l = sumB fs l := sumB_ext fun p hp => by rw [fl_set_other (by rw [<- e]; exact ha.1 p hp)]
     rw [e, hn, fl_set_same hf]
     omega
   · rw [fl_set_other (fun e' => e e'.symm)]
     rcases List.mem_cons.1 h with h | h
     · exact absurd (by rw [<- h]) e
     · have := sumB_set hf x (l := l) ha.2 ⟨n, h⟩
       omega

theorem usedD_grow {d : Dk} (h : OkD d) {n : Int} {f : Nat} (e : look (dirD d) n = some f) (b : List UInt8) : usedD (appendTo d f b) = usedD d + b.length := by
 have hm := (look_mem h.dir.rise n f).1 e
 have := sumB_set (h.dir.may _ hm).2 ⟨(fl d.files f).b ++ b, (fl d.files f).k⟩ h.dir.apart ⟨n, hm⟩
 simp only [List.length_append] at this
 show sumB (growF d.files f b) (dirD d) = sumB d.files (dirD d) + b.length
 unfold growF
 omega

theorem usedD_keep {d : Dk} (h : OkD d) {n : Int} {f : Nat} (e : look (dirD d) n = some f) (q : Int) : usedD { d with files := keepF d.files f, power := q } = usedD d := by
 have hm := (look_mem h.dir.rise n f).1 e
 have := sumB_set (h.dir.may _ hm).2 ⟨(fl d.files f).b, (fl d.files f).b.length⟩ h.dir.apart ⟨n, hm⟩
 show sumB (keepF d.files f) (dirD d) = sumB d.files (dirD d)
 unfold keepF
 dsimp only at this
 omega

theorem usedD_fresh {d : Dk} (h : OkD d) {n : Int} (e : look (dirD d) n = none) : usedD (freshD d n) = usedD d := by
 have h1 := sumB_setN (d.files ++ [⟨[], 0⟩]) h.dir.rise n (some d.files.length)
 have h2 : sumB (d.files ++ [⟨[], 0⟩]) (dirD d) = sumB d.files (dirD d) := sumB_more (fun p hp => (h.dir.may p hp).2) _
 have h3 : lenO (d.files ++ [⟨[], 0⟩]) (some d.files.length) = 0 := by show (fl _ _).b.length = 0; rw [fl_last]; rfl
 rw [e, h2, h3] at h1
 unfold usedD
 rw [dirD_fresh, chD]
 show sumB (d.files ++ [⟨[], 0⟩]) (setN (dirD d) n (some d.files.length)) = _
 simpa [lenO] using h1

theorem sumB_le {fs : List Fl} {T : Nat} (h : ∀ x ∈ fs, x.b.length <= T) : ∀ l : Dir, (∀ p ∈ l, p.2 < fs.length) -> sumB fs l <= l.length * T
 | [], _ => Nat.zero_le _
 | p :: l, hl => by
   have ih := sumB_le h l fun q hq => hl q (List.mem_cons_of_mem _ hq)
   have h1 := h _ (mem_fl (hl p (List.mem_cons_self ..)))
   rw [sumB_cons, List.length_cons, Nat.add_mul]
   omega

theorem length_foldl (l : List Ch) : ∀ k : Dir, (l.foldl chD k).length <= k.length + l.length := by
 induction l with
 | nil => intro k; exact Nat.le_refl _
 | cons c l ih =>
   intro k
   have h1 := ih (chD k c)
   have h2 := length_chD k c
   rw [List.foldl_cons, List.length_cons]
   omega

theorem usedD_le {d : Dk} (h : OkD d) {N T : Nat} (h1 : d.kept.length + d.waits.length <= N) (h2 : ∀ x ∈ d.files, x.b.length <= T) : usedD d <= N * T := by
 have h3 := sumB_le h2 (dirD d) fun p hp => (h.dir.may p hp).2
 have h4 := length_foldl d.waits d.kept
 have h5 : (dirD d).length * T <= N * T := Nat.mul_le_mul_right T (by unfold dirD; omega)
 unfold usedD
 omega

theorem dirK_len (d : Dk) (k : Nat) : (dirK d k).length <= d.kept.length + d.waits.length := by
 have h := length_foldl (d.waits.take k) d.kept
 have h2 : (d.waits.take k).length <= d.waits.length := by rw [List.length_take]; omega
 unfold dirK
 omega

theorem DiskL.widen {F F' : Nat -> Prop} {w : World} {p : Nat} {L : Lay} {d : Dk} {u : Int} {N : Nat} (h : DiskL F w p L d u N) (hF : ∀ k, F k -> F' k) (hlt : ∀ k, F' k -> k < w.heap.size) : DiskL F' w p L d u N :=
 ⟨h.head, ⟨h.rest.now, h.rest.kept, h.rest.row, h.rest.many, fun i c v h1 h2 => (h.rest.wait i c v h1 h2).keep hF (fun _ _ => rfl) (fun _ _ _ _ => rfl), h.rest.file, h.rest.psn, h.rest.vsn, h.rest.nk, hF _ h.rest.fn, hF _ h.rest.fk, fun g hg => hF g (h.rest.fw g hg), fun i hi => hF _ (h.rest.fp i hi), fun i hi g hg => hF g (h.rest.fv i hi g hg)⟩, hF _ h.fh, hlt⟩

theorem DiskL.more {F : Nat -> Prop} {w w' : World} {p : Nat} {L : Lay} {d : Dk} {u : Int} {N : Nat} (h : DiskL F w p L d u N) (hb : Below w.heap.size w w') : DiskL (Gr F w w') w' p L d u N :=
 (h.keep (fun k hf => hb.block k (h.lt k hf)) hb.size).widen (fun _ hf => .inl hf) (Gr.lt hb.size h.lt)

theorem chOf_lt {m : Nat} {c : Ch} (h : okCh m c) {f : Nat} (e : chOf c = some f) : f < m := by
 cases c with
 | give n g => obtain rfl := Option.some.inj e; exact h.2
 | move n g x => obtain rfl := Option.some.inj e; exact h.2.2.2
 | take n => cases e

theorem DiskL.addFile {F : Nat -> Prop} {w : World} {p : Nat} {L : Lay} {d : Dk} {u : Int} {N : Nat} (h : DiskL F w p L d u N) (hok : OkD d) :
   DiskL (Gr F w (w.alloc (.cells #[.slice none 0 0, .int .i64 0] 112))) (w.alloc (.cells #[.slice none 0 0, .int .i64 0] 112)) p { L with ps := fun i => if i = d.files.length then w.heap.size else L.ps i, vs := fun i => if i = d.files.length then .slice none 0 0 else L.vs i } { d with files := d.files ++ [⟨[], 0⟩] } u N := by
 have hb : Below w.heap.size w (w.alloc (.cells #[.slice none 0 0, .int .i64 0] 112)) := (Below.refl _ w).alloc (Nat.le_refl _) _
 have hnew : Bk 112 (w.alloc (.cells #[.slice none 0 0, .int .i64 0] 112)) w.heap.size #[.slice none 0 0, .int .i64 0] := heap_alloc_new w _
 have hs : (w.alloc (.cells #[.slice none 0 0, .int .i64 0] 112)).heap.size = w.heap.size + 1 := by simp
 obtain ⟨W, hW⟩ : ∃ W, W = w.alloc (.cells #[.slice none 0 0, .int .i64 0] 112) := ⟨_, rfl⟩
 rw [<- hW] at hb hnew hs ⊢
 have h1 := h.more hb
 have h0 := h1.rest
 have hlen : (d.files ++ [(⟨[], 0⟩ : Fl)]).length = d.files.length + 1 := by simp
 refine ⟨h1.head, ⟨?_, ?_, h0.row, h0.many, ?_, ?_, ?_, ?_, h0.nk, h0.fn, h0.fk, h0.fw, ?_, ?_⟩, h1.fh, h1.lt⟩
 · refine h0.now.fun fun n _ => ?_
   show (look (dirD d) n).map L.ps = (look (dirD d) n).map _
   cases e : look (dirD d) n with
   | none => rfl
   | some f =>
     have := (hok.dir.mayOf e).2
     show some (L.ps f) = some (if f = d.files.length then w.heap.size else L.ps f)
     rw [if_neg (by omega)]
 · refine h0.kept.fun fun n _ => ?_
   show (look d.kept n).map L.ps = (look d.kept n).map _
   cases e : look d.kept n with
   | none => rfl
   | some f =>
     have := (hok.kept.mayOf e).2
     show some (L.ps f) = some (if f = d.files.length then w.heap.size else L.ps f)
     rw [if_neg (by omega)]
 · intro i c v hi hv
   refine (h0.wait i c v hi hv).keep (fun _ hf => hf) (fun f hf => ?_) (fun _ _ _ _ => rfl)
   have := chOf_lt (hok.chs c (List.mem_of_getElem? hi)) hf
   show (if f = d.files.length then w.heap.size else L.ps f) = L.ps f
   rw [if_neg (by omega)]
 · intro i hi
   show FileV W (if i = d.files.length then w.heap.size else L.ps i) (if i = d.files.length then .slice none 0 0 else L.vs i) (fl (d.files ++ [⟨[], 0⟩]) i)
   by_cases e : i = d.files.length
   · rw [if_pos e, if_pos e, e, fl_last]
     exact ⟨hnew, World.ownsRow_nil _ _ _ _⟩
   · have hi' : i < d.files.length := by have : i < (d.files ++ [(⟨[], 0⟩ : Fl)]).length := hi; omega
     rw [if_neg e, if_neg e, fl_append hi']
     exact h0.file i hi'
 · intro i j hi hj hij
   have hi2 : i < (d.files ++ [(⟨[], 0⟩ : Fl)]).length := hi
   have hj2 : j < (d.files ++ [(⟨[], 0⟩ : Fl)]).length := hj
   show (if i = d.files.length then w.heap.size else L.ps i) ≠ (if j = d.files.length then w.heap.size else L.ps j)
   have hold : ∀ i, i < d.files.length -> L.ps i < w.heap.size := fun i hi => h.lt _ (h.rest.fp i hi)
   by_cases e1 : i = d.files.length
   · rw [if_pos e1, if_neg (by omega)]
     have := hold j (by omega)
     omega
   · rw [if_neg e1]
     by_cases e2 : j = d.files.length
     · rw [if_pos e2]
       have := hold i (by omega)
       omega
     · rw [if_neg e2]
       exact h0.psn i j (by show i < d.files.length; omega) (by show j < d.files.length; omega) hij
 · intro i j hi hj hij g
   have hi2 : i < (d.files ++ [(⟨[], 0⟩ : Fl)]).length := hi
   have hj2 : j < (d.files ++ [(⟨[], 0⟩ : Fl)]).length := hj
   show (if i = d.files.length then Value.slice none 0 0 else L.vs i).ownBlock = some g -> (if j = d.files.length then Value.slice none 0 0 else L.vs j).ownBlock ≠ some g
   by_cases e1 : i = d.files.length
   · rw [if_pos e1]
     intro hg
     cases hg
   · rw [if_neg e1]
     by_cases e2 : j = d.files.length
     · rw [if_pos e2]
       intro _ hg
       cases hg
     · rw [if_neg e2]
       exact h0.vsn i j (by show i < d.files.length; omega) (by show j < d.files.length; omega) hij g
 · intro i hi
   have hi2 : i < (d.files ++ [(⟨[], 0⟩ : Fl)]).length := hi
   show Gr F w W (if i = d.files.length then w.heap.size else L.ps i)
   by_cases e : i = d.files.length
   · rw [if_pos e]
     exact .inr ⟨Nat.le_refl _, by omega⟩
   · rw [if_neg e]
     exact h0.fp i (by show i < d.files.length; omega)
 · intro i hi g
   have hi2 : i < (d.files ++ [(⟨[], 0⟩ : Fl)]).length := hi
   show (if i = d.files.length then Value.slice none 0 0 else L.vs i).ownBlock = some g -> Gr F w W g
   by_cases e : i = d.files.length
   · rw [if_pos e]
     intro hg
     cases hg
   · rw [if_neg e]
     exact h0.fv i (by show i < d.files.length; omega) g

theorem run_append_rdl (w : World) (ty : TypeId) (v : Value) (l0 : List UInt8) (hown : Own w 0 v l0) (vx : Value) (l : List UInt8) (hr : Rd w vx l)
   (hlim : l0.length + l.length <= 70368744177664) :
   ∃ v' w', (Builtin.append_ #[53, 53] ty #[v, vx]).run Tryz.prog w = .ok v' w' ∧ Own w' 0 v' (l0 ++ l) ∧ w.grownBy w' v.ownBlock ∧ (v'.ownBlock = v.ownBlock ∨ v'.ownBlock = some w.heap.size) := by
 obtain ⟨i0, hi, hz0, hz1, hz2⟩ := info_parts info8
 obtain ⟨ao, cap, rfl, hlc, hcm, hn0, hao⟩ := hr
 cases ao with
 | none =>
   have hc := hn0 rfl
   subst hc
   have hl : l = [] := List.eq_nil_of_length_eq_zero (by omega)
   subst hl
   have hrun := run_append_owned_none (P := Tryz.prog) w 0 53 ty 5 i0 1 Tryz.underlying53 hi v l0.length (Lib.byteCells l0) hown
   exact ⟨v, w, hrun, by rw [List.append_nil]; exact hown, ⟨rfl, rfl, rfl, Nat.le_refl _, fun _ _ _ => rfl⟩, .inl rfl⟩
 | some a =>
   obtain ⟨v', w', hrun, ho, hg, _, hl⟩ := run_append_own_at (P := Tryz.prog) w 0 53 ty 5 i0 (.int .u8 0) 1 1 Tryz.underlying53 hi hz0 hz1 hz2 rfl (by decide) v l0.length (Lib.byteCells l0) hown a l.length cap (Lib.byteCells l)
     (by rw [byteCells_length, Nat.mul_one]) (Rd.cells hao a rfl) (byteCells_one l) (by unfold maxLen; omega) (by omega) (Nat.zero_le _)
   exact ⟨v', w', hrun, Own.mk' ho (by simp) (by simp [Lib.byteCells]), hg, hl⟩

theorem wpList_append_rdl (w : World) {ops : Array Oper} {rest : List Oper} {o : Oper} {a : Act} {Q : Exit -> Act -> World -> Prop} (hgd : o.guard = none) (s x : Operand)
   (ho : o.op = .call { callee := .builtin .append, args := #[s, x], argTypes := #[53, 53] })
   (v : Value) (l0 : List UInt8) (hs : a.eval s = v) (hown : Own w 0 v l0) (vx : Value) (l : List UInt8) (hx : a.eval x = vx) (hr : Rd w vx l)
   (hlim : l0.length + l.length <= 70368744177664)
   (h : ∀ v' w', Own w' 0 v' (l0 ++ l) -> w.grownBy w' v.ownBlock -> (v'.ownBlock = v.ownBlock ∨ v'.ownBlock = some w.heap.size) -> wpList Tryz.prog ops Q rest (a.put o.dst v') w') : wpList Tryz.prog ops Q (o :: rest) a w :=
 wpList_plain hgd fun _ hK => by
   obtain ⟨v', w', hrun, h2, h3, h4⟩ := run_append_rdl w o.type v l0 hown vx l hr hlim
   unfold Oper.wp execOp
   simp only [ho, resolve, invoke, builtin, Sem.run_bind, Sem.run_pure, Result.andThen_ok, List.map_toArray, List.map_cons, List.map_nil, hs, hx, hrun]
   exact hK _ _ (h v' w' h2 h3 h4)

theorem DiskL.grow {F : Nat -> Prop} {w w1 : World} {p : Nat} {L : Lay} {d : Dk} {u : Int} {N f : Nat} {v' : Value} {x : List UInt8} (h : DiskL F w p L d u N) (hf : f < d.files.length)
   (ho : Own w1 0 v' ((fl d.files f).b ++ x)) (hg : w.grownBy w1 (L.vs f).ownBlock) (hl : v'.ownBlock = (L.vs f).ownBlock ∨ v'.ownBlock = some w.heap.size) :
   DiskL (Gr F w w1) (w1.setCell ⟨L.ps f, 0, none⟩ v') p { L with vs := fun i => if i = f then v' else L.vs i } { d with files := growF d.files f x } u N ∧ Only F w (w1.setCell ⟨L.ps f, 0, none⟩ v') := by
 have h0 := h.rest
 have hb := (h0.file f hf).box
 have hne : (L.vs f).ownBlock ≠ some (L.ps f) := fun e => by
   obtain ⟨cs', hb'⟩ := ownBk (h0.file f hf).own e
   exact (hb.ne hb' (by decide)) rfl
 have hb1 : Bk 112 w1 (L.ps f) #[L.vs f, .int .i64 ((fl d.files f).k : Int)] := hb.keep (hg.block _ hb.lt (fun e => hne e.symm))
 have hs : (w1.setCell ⟨L.ps f, 0, none⟩ v').heap.size = w1.heap.size := by simp
 refine ⟨h.setFile (F' := Gr F w w1) hf (fun k hk h1 h2 => ?_) ⟨hb1.set 0 v', ?_⟩ ?_ (fun _ hk => .inl hk) (fun g hg' => ?_) (fun k hk => by rw [hs]; exact Gr.lt hg.size h.lt k hk), ?_⟩
 · rw [Below.heap_setCell _ _ _ _ h1, hg.block k (h.lt k hk) (fun e => h2 e.symm)]
 · refine ownsRow_keep ho fun g hg' => Below.heap_setCell _ _ _ _ ?_
   obtain ⟨cs', hb'⟩ := ownBk ho hg'
   exact hb'.ne hb1 (by decide)
 · rcases hl with hl | hl
   · exact .inl hl
   · exact .inr fun g hg' => by rw [hl] at hg'; exact Nat.le_of_eq (Option.some.inj hg')
 · rcases hl with hl | hl
   · exact .inl (h0.fv f hf g (by rw [<- hl]; exact hg'))
   · have h3 := (World.ownsRow.lt ho g hg').2
     rw [hl] at hg'
     obtain rfl := Option.some.inj hg'
     exact .inr ⟨Nat.le_refl _, h3⟩
 · exact (Only.ofGrown hg fun k e _ => h0.fv f hf k e).setCell 0 (fun _ => h0.fp f hf) v'

theorem Bnd.grow {d : Dk} {N T : Nat} (h : Bnd d N T) (f : Nat) (b : List UInt8) (q : Int) : Bnd { d with files := growF d.files f b, power := q } (N + 1) (T + b.length) := by
 refine ⟨by show (growF d.files f b).length <= _; have := h.files; simp [growF]; omega, by have := h.names; show d.kept.length + d.waits.length <= _; omega, fun x hx => ?_⟩
 rcases List.mem_or_eq_of_mem_set hx with hx | rfl
 · have := h.bytes x hx; omega
 · simp only [List.length_append]
   by_cases hf : f < d.files.length
   · have := h.bytes _ (mem_fl hf); omega
   · unfold fl
     rw [List.getD, List.getElem?_eq_none (by omega)]
     simp only [Option.getD_none, List.length_nil]
     omega

theorem Bnd.fresh {d : Dk} {N T : Nat} (h : Bnd d N T) (n : Int) : Bnd (freshD d n) (N + 1) T := by
 refine ⟨by show (d.files ++ [_]).length <= _; have := h.files; simp; omega, by have := h.names; show d.kept.length + (d.waits ++ [_]).length <= _; simp; omega, fun x hx => ?_⟩
 rcases List.mem_append.1 hx with hx | hx
 · exact h.bytes x hx
 · rw [List.mem_singleton.1 hx]
   exact Nat.zero_le _

theorem Bnd.mono {d : Dk} {N T N' T' : Nat} (h : Bnd d N T) (hN : N <= N') (hT : T <= T') : Bnd d N' T' :=
 ⟨Nat.le_trans h.files hN, Nat.le_trans h.names hN, fun x hx => Nat.le_trans (h.bytes x hx) hT⟩

theorem DiskL.mono {F : Nat -> Prop} {w : World} {p : Nat} {L : Lay} {d : Dk} {u : Int} {N N' : Nat} (h : DiskL F w p L d u N) (hN : N <= N') : DiskL F w p L d u N' := ⟨h.head, h.rest.mono hN, h.fh, h.lt⟩

theorem Dsk.mono {F : Nat -> Prop} {w : World} {p : Nat} {d : Dk} {N T N' T' : Nat} (h : Dsk F w p d N T) (hN : N <= N') (hT : T <= T') : Dsk F w p d N' T' := by
 obtain ⟨L, h1, h2, h3, h4⟩ := h
 exact ⟨L, h1.mono hN, h2, h3.mono hN hT, h4⟩

def DidF (F : Nat -> Prop) (w : World) (p : Nat) (d : Dk) (code : Int) (N T : Nat) (e : Ending) (w' : World) : Prop :=
 e = .returned (.int .i64 code) ∧ ∃ F', Dsk F' w' p d N T ∧ Only F w w' ∧ ∀ k, F' k -> F k ∨ w.heap.size <= k

theorem DidF.same {F : Nat -> Prop} {w : World} {p : Nat} {d : Dk} {code : Int} {N T N' T' : Nat} (h : Dsk F w p d N T) (hN : N <= N') (hT : T <= T') : DidF F w p d code N' T' (.returned (.int .i64 code)) w :=
 ⟨rfl, F, h.mono hN hT, Only.refl _ _, fun _ hk => .inl hk⟩

theorem DidF.drew {F : Nat -> Prop} {w : World} {p : Nat} {d : Dk} {code : Int} {N T N' T' : Nat} (h : Dsk F w p d N T) (hN : N <= N') (hT : T <= T') (q : Nat) : DidF F w p d code N' T' (.returned (.int .i64 code)) (w.drewN q) :=
 ⟨rfl, F, (h.below (below_drewN (Below.refl _ _) q)).mono hN hT, (Only.refl _ _).drewN q, fun _ hk => .inl hk⟩

theorem tick_i64 {q : Int} (h : I64 q) : I64 (tickD q) := by
 obtain ⟨h1, h2⟩ := h
 unfold tickD I64
 split <;> omega

theorem used_bd {d : Dk} (h : OkD d) {N T : Nat} (hb : Bnd d N T) (hN : N <= 1000000) (hT : T <= 1000000000) : usedD d <= 1000000000000000 := by
 have h1 := usedD_le h hb.names hb.bytes
 have h2 : N * T <= 1000000 * 1000000000 := Nat.mul_le_mul hN hT
 omega

theorem DidF.appended {F F2 : Nat -> Prop} {w W2 : World} {p : Nat} {d1 : Dk} {N1 N' T f : Nat} {n : Int} {b : List UInt8} {L2 : Lay} (hok : OkD d1) (hbn : Bnd d1 N1 T) (hi : I64 d1.room ∧ I64 d1.power) (hl : look (dirD d1) n = some f)
   (h : DiskL F2 W2 p L2 (appendTo d1 f b) ((usedD d1 : Int) + b.length) N1) (ho : Only F w W2) (hg : ∀ k, F2 k -> F k ∨ w.heap.size <= k) (hN : N1 + 1 <= N') : DidF F w p (appendTo d1 f b) 0 N' (T + b.length) (.returned (.int .i64 0)) W2 := by
 refine ⟨rfl, F2, ⟨L2, ?_, hok.appendTo f b, (hbn.grow f b _).mono hN (Nat.le_refl _), hi.1, tick_i64 hi.2⟩, ho, hg⟩
 rw [usedD_grow hok hl b]
 exact h.mono (by omega)

theorem Rd.blockLt {w : World} {v : Value} {l : List UInt8} (h : Rd w v l) : l = [] ∨ ∀ k, v.ownBlock = some k -> k < w.heap.size := by
 obtain ⟨ao, cap, rfl, h2, h3, hn, h4⟩ := h
 rcases h4 with h4 | ⟨b, off, rfl, h6⟩
 · exact .inl h4
 · by_cases e : l = []
   · exact .inl e
   · right
     intro k hk
     obtain rfl : b = k := by simpa [Value.ownBlock] using hk
     exact World.block_lt_of_cell? w ⟨b, off + 0, none⟩ (h6 0 (List.length_pos_iff.2 e))

theorem Rd.onlyN {w w' : World} {v : Value} {l : List UInt8} (h : Rd w v l) {F G : Nat -> Prop} {B : Nat} (ho : Only G w w') (hG : ∀ k, G k -> F k ∨ B <= k) (hv : l = [] ∨ ∀ k, v.ownBlock = some k -> ¬ F k) (hlt : l = [] ∨ ∀ k, v.ownBlock = some k -> k < B) : Rd w' v l := by
 rcases hv with rfl | hv
 · obtain ⟨ao, cap, rfl, h2, h3, hn, h4⟩ := h
   exact ⟨ao, cap, rfl, h2, h3, hn, .inl rfl⟩
 rcases hlt with rfl | hlt
 · obtain ⟨ao, cap, rfl, h2, h3, hn, h4⟩ := h
   exact ⟨ao, cap, rfl, h2, h3, hn, .inl rfl⟩
 · exact h.only ho fun k hk hg => by
     rcases hG k hg with hf | hf
     · exact hv k hk hf
     · have := hlt k hk; omega

set_option maxRecDepth 100000 in
set_option maxHeartbeats 2000000 in
theorem append_any {F : Nat -> Prop} {p : Nat} {d : Dk} {N T : Nat} (n : Int) (hn : I64 n) (vb : Value) (b : List UInt8) (w : World) (h : Dsk F w p d N T) (hr : Rd w vb b) (hv : b = [] ∨ ∀ k, vb.ownBlock = some k -> ¬ F k) (hN : N <= 1000000) (hT : T <= 1000000000) (hbl : b.length <= 1000000000) :
   Calls Tryz.prog 29 #[ptr p, .int .i64 n, vb] w fun e w' => DidF F w p (appendD d n b).1 (appendD d n b).2 (N + 2) (T + b.length) e w' := by
 have HD := hide h
 obtain ⟨L, h, hok, hbn, hrm, hpw⟩ := h
 have H := hide h
 have HOK := hide hok
 have HBN := hide hbn
 have HI := hide (And.intro hrm hpw)
 have HRD := hide hr
 have HBL := hide hr.blockLt
 have HV := hide hv
 have HO := hide (on_any w h)
 have HM := hide (mayBe_any n w)
 have hl := h.rest.now.look hn
 obtain ⟨⟨c0, c1, c2, -, -, -⟩, -⟩ := h.cells
 have hub := used_bd hok hbn hN hT
 obtain ⟨U, hU⟩ : ∃ U : Int, U = (usedD d : Int) := ⟨_, rfl⟩
 have hU0 : 0 <= U ∧ U <= 1000000000000000 := by omega
 rw [<- hU] at c1
 obtain ⟨ao, cap, rfl, -⟩ := hr
 obtain ⟨R, hR⟩ : ∃ R, R = d.room := ⟨_, rfl⟩
 rw [<- hR] at c0
 unfold appendD
 rw [<- hU, <- hR]
 have HU := hide hU
 clear hU hub hR
 clear hok hbn hpw hv h
 by_cases h0 : d.power = 0
 · rw [if_pos h0]
   rw [h0] at HO
   clear hl h0
   go_enter Tryz.func29, Tryz.ntmps29
   go_wp2_with fail
   refine HO.out.mono ?_
   rintro e w' ⟨rfl, rfl⟩
   go_wp2
   go_ret
   exact DidF.same HD.out (by omega) (by omega)
 rw [if_neg h0]
 have e0 : (d.power != 0) = true := by simpa using h0
 rw [e0] at HO
 clear h0 e0
 cases hmn : mayN n with
 | false =>
   rw [if_pos rfl]
   rw [hmn] at HM
   clear hl hmn
   go_enter Tryz.func29, Tryz.ntmps29
   go_wp2_with fail
   refine HO.out.mono ?_
   rintro e w' ⟨rfl, rfl⟩
   go_wp2_with fail
   refine HM.out.mono ?_
   rintro e w' ⟨rfl, rfl⟩
   go_wp2
   go_ret
   exact DidF.same HD.out (by omega) (by omega)
 | true =>
 rw [if_neg (by simp)]
 have HMN := hide hmn
 rw [hmn] at HM
 clear hmn
 by_cases hroom : U + (b.length : Int) > R
 · rw [if_pos hroom]
   clear hl
   go_enter Tryz.func29, Tryz.ntmps29
   go_wp2_with fail
   refine HO.out.mono ?_
   rintro e w' ⟨rfl, rfl⟩
   go_wp2_with fail
   refine HM.out.mono ?_
   rintro e w' ⟨rfl, rfl⟩
   go_upto_region 5 with fail
   go_quiet (fail)
   go_wp2
   go_ret
   exact DidF.drew HD.out (by omega) (by omega) _
 rw [if_neg hroom]
 have hroom' : decide (U + (b.length : Int) > R) = false := decide_eq_false hroom
 have hroom2 : U + (b.length : Int) <= R := by omega
 cases ho : look (dirD d) n with
 | some f =>
   clear hl
   dsimp only
   have HLK := hide ho
   clear ho
   go_enter Tryz.func29, Tryz.ntmps29
   go_wp2_with fail
   refine HO.out.mono ?_
   rintro e w' ⟨rfl, rfl⟩
   go_wp2_with fail
   refine HM.out.mono ?_
   rintro e w' ⟨rfl, rfl⟩
   go_upto_region 5 with fail
   go_cut [17] (fun v wc => v = .bool false ∧ Hid (∃ q, wc = w'.drewN q))
   case first =>
     go_quiet (fail)
     go_wp2
     go_meet
     exact ⟨rfl, hide ⟨_, rfl⟩⟩
   case rest =>
     obtain ⟨W, rfl⟩ : ∃ W, W = wc := ⟨_, rfl⟩
     obtain ⟨rfl, hw⟩ := hcut
     obtain ⟨w, rfl⟩ : ∃ w0, w0 = w' := ⟨_, rfl⟩
     obtain ⟨q, hq⟩ := hw.out
     have H0 : Hid (DiskL F W p L d U N) := hide (by rw [hq, HU.out]; exact H.out.keep (fun _ _ => rfl) (Nat.le_refl _))
     have HON0 : Hid (Only F w W) := hide (by rw [hq]; exact (Only.refl _ _).drewN q)
     have HRD0 : Hid (Rd W (.slice ao b.length cap) b) := hide (by rw [hq]; exact HRD.out.below (below_drewN (Below.refl _ _) q) (Nat.le_refl _))
     clear hw hq c0 c1 c2 hroom hroom' H HRD HO HM HD
     obtain ⟨⟨-, -, c2, -, -, -⟩, -⟩ := H0.out.cells
     have hl := H0.out.rest.now.look hn
     rw [HLK.out] at hl
     have hl' : (Instr.lookup 69 (.map (some L.now)) (.int .i64 n) true).run Tryz.prog W = .ok (.tuple #[.pointer (some ⟨L.ps f, 0, none⟩), .bool true]) W := hl
     have hf : f < d.files.length := (HOK.out.dir.mayOf HLK.out).2
     have HLK1 := HLK
     have H1 := H0
     have HU1 := HU
     have HOK1 := HOK
     have HBN1 := HBN
     have HI1 := HI
     have HGR1 : Hid (∀ k, F k -> F k ∨ w.heap.size <= k) := hide (fun k hk => .inl hk)
     have HON1 := HON0
     have HRD1 := HRD0
     clear hl H0 HON0 HRD0
     go_upto_region 11 with fail
     clear hl' c2

     obtain ⟨g0, y0⟩ := (H1.out.rest.file f hf).box.cell 0 rfl
     have HOW := hide (H1.out.rest.file f hf).own
     have hbx := hide (H1.out.rest.file f hf).box
     obtain ⟨va, vc, hvs⟩ := (H1.out.rest.file f hf).own.shape
     rw [hvs] at g0
     have HVS := hide hvs
     have HLIM : Hid ((fl d.files f).b.length + b.length <= 70368744177664) := hide (by have := HBN1.out.bytes _ (mem_fl hf); omega)
     clear hvs
     go_wp2_with (at_builtin; refine (fun (h : True -> _) => h trivial) ?_)
     intro _
     rw [<- HVS.out]
     refine wpList_append_rdl W rfl _ _ rfl (L.vs f) _ rfl HOW.out _ b rfl HRD1.out HLIM.out ?_
     intro v' w2 ho2 hg2 hl2
     obtain ⟨hd2, hon2⟩ := H1.out.grow hf ho2 hg2 hl2
     have HD2 := hide hd2
     have HON2 := hide hon2
     have hne : (L.vs f).ownBlock ≠ some (L.ps f) := fun e => by
       obtain ⟨cs', hb'⟩ := ownBk HOW.out e
       exact (hbx.out.ne hb' (by decide)) rfl
     obtain ⟨g2, y2⟩ := (hbx.out.keep (hg2.block _ hbx.out.lt (fun e => hne e.symm))).cell 0 rfl
     rw [HVS.out] at g2
     obtain ⟨va', vc', hvs'⟩ := ho2.shape
     rw [hvs'] at HD2 HON2 ⊢
     obtain ⟨W3, hW3⟩ : ∃ W3, W3 = w2.setCell ⟨L.ps f, 0, none⟩ (.slice va' ((fl d.files f).b ++ b).length vc') := ⟨_, rfl⟩
     have HW3 := hide hW3
     obtain ⟨M, hM⟩ : ∃ M, M = ((fl d.files f).b ++ b).length := ⟨_, rfl⟩
     rw [<- hW3] at HD2 HON2
     rw [<- hM]
     rw [<- hM] at HW3
     clear ho2 hg2 hl2 hd2 hon2 hne hvs' hW3 hM g0 y0
     go_upto_region 12 with fail
     rw [<- HW3.out]
     clear HW3 g2 y2
     obtain ⟨⟨-, k1, -, -, -, -⟩, j1, -⟩ := HD2.out.cells
     obtain ⟨W4, hW4⟩ : ∃ W4, W4 = W3.setCell ⟨p, 1, none⟩ (.int .i64 (U + (b.length : Int))) := ⟨_, rfl⟩
     have HD3 := hide (HD2.out.setHead 1 (.int .i64 (U + (b.length : Int))) (d' := { d with files := growF d.files f b }) (u' := U + (b.length : Int)) ⟨rfl, rfl, rfl⟩ rfl)
     have HON3 : Hid (Only F w W4) := hide (by
       rw [hW4]
       exact (HON1.out.trans HON2.out (fun k hk hf => (HGR1.out k hf).resolve_right (by omega))).setCell 1 (fun hlt => ((HGR1.out p H1.out.fh).resolve_right (by omega))) _)
     rw [<- hW4] at HD3
     have HW4 := hide hW4
     clear hW4
     go_upto_region 13 with fail
     rw [<- HW4.out]
     clear HW4 k1 j1
     go_wp2_with fail
     refine (done_any W4 HD3.out HI1.out.2).mono ?_
     rintro e W5 ⟨rfl, hd5, hon5⟩
     go_wp2
     go_ret
     refine DidF.appended HOK1.out HBN1.out HI1.out HLK1.out (by rw [<- HU1.out]; exact hd5) ((HON3.out.trans hon5 (fun k hk hf => ?_))) (fun k hk => ?_) (by omega)
     · rcases hf with hf | hf
       · exact (HGR1.out k hf).resolve_right (by omega)
       · have := HON1.out.size; omega
     · rcases hk with hk | hk
       · exact HGR1.out k hk
       · have := HON1.out.size; exact .inr (by omega)
 | none =>
   clear hl
   dsimp only
   have HLK := hide ho
   clear ho
   go_enter Tryz.func29, Tryz.ntmps29
   go_wp2_with fail
   refine HO.out.mono ?_
   rintro e w' ⟨rfl, rfl⟩
   go_wp2_with fail
   refine HM.out.mono ?_
   rintro e w' ⟨rfl, rfl⟩
   go_upto_region 5 with fail
   go_cut [17] (fun v wc => v = .bool false ∧ Hid (∃ q, wc = w'.drewN q))
   case first =>
     go_quiet (fail)
     go_wp2
     go_meet
     exact ⟨rfl, hide ⟨_, rfl⟩⟩
   case rest =>
     obtain ⟨W, rfl⟩ : ∃ W, W = wc := ⟨_, rfl⟩
     obtain ⟨rfl, hw⟩ := hcut
     obtain ⟨w, rfl⟩ : ∃ w0, w0 = w' := ⟨_, rfl⟩
     obtain ⟨q, hq⟩ := hw.out
     have H0 : Hid (DiskL F W p L d U N) := hide (by rw [hq, HU.out]; exact H.out.keep (fun _ _ => rfl) (Nat.le_refl _))
     have HON0 : Hid (Only F w W) := hide (by rw [hq]; exact (Only.refl _ _).drewN q)
     have HRD0 : Hid (Rd W (.slice ao b.length cap) b) := hide (by rw [hq]; exact HRD.out.below (below_drewN (Below.refl _ _) q) (Nat.le_refl _))
     clear hw hq c0 c1 c2 hroom hroom' H HRD HO HM HD
     obtain ⟨⟨-, -, c2, -, -, -⟩, -⟩ := H0.out.cells
     have hl := H0.out.rest.now.look hn
     rw [HLK.out] at hl
     have hl' : (Instr.lookup 69 (.map (some L.now)) (.int .i64 n) true).run Tryz.prog W = .ok (.tuple #[.pointer none, .bool false]) W := hl
     have HFR := hide (H0.out.addFile HOK.out)
     have HONF := hide (HON0.out.alloc (.cells #[.slice none 0 0, .int .i64 0] 112))
     have HRDF : Hid (Rd (W.alloc (.cells #[.slice none 0 0, .int .i64 0] 112)) (.slice ao b.length cap) b) := hide (HRD0.out.below ((Below.refl _ _).alloc (Nat.le_refl _) _) (Nat.le_refl _))
     have HSZ : Hid (w.heap.size <= W.heap.size) := hide HON0.out.size
     have HWZ : Hid (W.heap.size < (W.alloc (.cells #[.slice none 0 0, .int .i64 0] 112)).heap.size) := hide (by simp)
     obtain ⟨WA, hWA⟩ : ∃ WA, WA = W.alloc (.cells #[.slice none 0 0, .int .i64 0] 112) := ⟨_, rfl⟩
     rw [<- hWA] at HFR HONF HRDF HWZ
     have HWA := hide hWA
     have HO := HLK
     clear hWA hl
     go_upto_region 10 with fail
     rw [<- HWA.out]
     clear HWA hl' c2
     go_wp2_with fail
     refine (give_any n W.heap.size WA).mono ?_
     rintro e WB ⟨rfl, hWB⟩
     have hbB : Below WA.heap.size WA WB := by rw [hWB]; exact ((Below.refl _ _).alloc (Nat.le_refl _) _).alloc (by simp) _
     have hsB : WB.heap.size = WA.heap.size + 1 + 1 := by rw [hWB]; simp
     have hc1 : Bk 3 WB WA.heap.size #[.int .i64 n] := by rw [hWB]; exact (Below.heap_alloc _ _ _ (by simp)).trans (heap_alloc_new WA _)
     have hc2 : Bk 109 WB (WA.heap.size + 1) #[ptr W.heap.size] := by
       have e1 : WA.heap.size + 1 = (WA.alloc (.cells #[.int .i64 n] 3)).heap.size := by simp
       rw [hWB, e1]
       exact heap_alloc_new _ _
     have HDB := hide (HFR.out.more hbB)
     obtain ⟨FB, hFB⟩ : ∃ FB, FB = Gr (Gr F W WA) WA WB := ⟨_, rfl⟩
     rw [<- hFB] at HDB
     obtain ⟨LB, hLB⟩ : ∃ LB : Lay, LB = { L with ps := fun i => if i = d.files.length then W.heap.size else L.ps i, vs := fun i => if i = d.files.length then .slice none 0 0 else L.vs i } := ⟨_, rfl⟩
     have hps : LB.ps d.files.length = W.heap.size := by rw [hLB]; exact if_pos rfl
     rw [<- hLB] at HDB
     have HCV : Hid (ChV FB WB LB.ps (.give n d.files.length) (.func (.func 111) #[] #[ptr (WA.heap.size + 1), ptr WA.heap.size])) := hide ⟨_, _, rfl, hc1, by rw [hps]; exact hc2, by rw [hFB]; exact .inr ⟨Nat.le_refl _, by omega⟩, by rw [hFB]; exact .inr ⟨by omega, by omega⟩⟩
     have HFRB : Hid (∀ k, FB k -> F k ∨ w.heap.size <= k) := hide (fun k hk => by
       rw [hFB] at hk
       have h1 := HSZ.out
       have h2 := HWZ.out
       rcases hk with (hk | hk) | hk
       · exact .inl hk
       · exact .inr (by omega)
       · exact .inr (by omega))
     have HONB : Hid (Only F w WB) := hide (HONF.out.trans (G := fun _ => False) (Only.ofBelow hbB) (fun _ _ hf => hf.elim))
     have HRDB : Hid (Rd WB (.slice ao b.length cap) b) := hide (HRDF.out.below hbB (Nat.le_refl _))
     have HPS := hide hps
     have HOKF : Hid (OkD { d with files := d.files ++ [⟨[], 0⟩] }) := hide ⟨fun k => (HOK.out.dirs k).more (by simp), fun c hc => (HOK.out.chs c hc).more (by simp), fun x hx => by
       rcases List.mem_append.1 hx with hx | hx
       · exact HOK.out.keep x hx
       · rw [List.mem_singleton.1 hx]; exact Nat.le_refl _⟩
     have HAP := hide (apply_any WB HDB.out HCV.out HOKF.out ⟨HMN.out, by simp⟩ hN (by have := HBN.out.names; show d.waits.length <= 1000000; omega))
     clear hbB hsB hc1 hc2 hFB hLB hps hWB
     go_wp2_with fail
     refine HAP.out.mono ?_
     rintro e WC ⟨rfl, LC, hdc, hpsc, -, honc⟩
     have HLK1 : Hid (look (dirD (freshD d n)) n = some d.files.length) := hide (look_fresh HOK.out n)
     have H1 : Hid (DiskL (Gr FB WB WC) WC p LC (freshD d n) U (N + 1)) := hide hdc
     have HU1 : Hid (U = (usedD (freshD d n) : Int)) := hide (by rw [usedD_fresh HOK.out HO.out]; exact HU.out)
     have HOK1 : Hid (OkD (freshD d n)) := hide (HOK.out.fresh HMN.out)
     have HBN1 : Hid (Bnd (freshD d n) (N + 1) T) := hide (HBN.out.fresh n)
     have HI1 : Hid (I64 (freshD d n).room ∧ I64 (freshD d n).power) := hide HI.out
     have HGR1 : Hid (∀ k, Gr FB WB WC k -> F k ∨ w.heap.size <= k) := hide (fun k hk => by
       rcases hk with hk | hk
       · exact HFRB.out k hk
       · have := HONB.out.size; exact .inr (by omega))
     have HON1 : Hid (Only F w WC) := hide (HONB.out.trans honc (fun k hk hf => (HFRB.out k hf).resolve_right (by omega)))
     have HRD1 : Hid (Rd WC (.slice ao b.length cap) b) := hide (HRDB.out.onlyN (B := w.heap.size) honc HFRB.out HV.out HBL.out)
     have hf : d.files.length < (freshD d n).files.length := by simp [freshD]
     have hpc : LC.ps d.files.length = W.heap.size := by rw [hpsc]; exact HPS.out
     rw [<- hpc]
     clear hdc hpsc honc hpc HAP HCV HDB HFRB HONB HRDB HPS HOKF HFR HONF HRDF HSZ HWZ HO H0 HON0 HRD0 HOK HBN HI HU hn HMN
     go_upto_region 11 with fail

     obtain ⟨g0, y0⟩ := (H1.out.rest.file d.files.length hf).box.cell 0 rfl
     have HOW := hide (H1.out.rest.file d.files.length hf).own
     have hbx := hide (H1.out.rest.file d.files.length hf).box
     obtain ⟨va, vc, hvs⟩ := (H1.out.rest.file d.files.length hf).own.shape
     rw [hvs] at g0
     have HVS := hide hvs
     have HLIM : Hid ((fl (freshD d n).files d.files.length).b.length + b.length <= 70368744177664) := hide (by have := HBN1.out.bytes _ (mem_fl hf); omega)
     clear hvs
     go_wp2_with (at_builtin; refine (fun (h : True -> _) => h trivial) ?_)
     intro _
     rw [<- HVS.out]
     refine wpList_append_rdl WC rfl _ _ rfl (LC.vs d.files.length) _ rfl HOW.out _ b rfl HRD1.out HLIM.out ?_
     intro v' w2 ho2 hg2 hl2
     obtain ⟨hd2, hon2⟩ := H1.out.grow hf ho2 hg2 hl2
     have HD2 := hide hd2
     have HON2 := hide hon2
     have hne : (LC.vs d.files.length).ownBlock ≠ some (LC.ps d.files.length) := fun e => by
       obtain ⟨cs', hb'⟩ := ownBk HOW.out e
       exact (hbx.out.ne hb' (by decide)) rfl
     obtain ⟨g2, y2⟩ := (hbx.out.keep (hg2.block _ hbx.out.lt (fun e => hne e.symm))).cell 0 rfl
     rw [HVS.out] at g2
     obtain ⟨va', vc', hvs'⟩ := ho2.shape
     rw [hvs'] at HD2 HON2 ⊢
     obtain ⟨W3, hW3⟩ : ∃ W3, W3 = w2.setCell ⟨LC.ps d.files.length, 0, none⟩ (.slice va' ((fl (freshD d n).files d.files.length).b ++ b).length vc') := ⟨_, rfl⟩
     have HW3 := hide hW3
     obtain ⟨M, hM⟩ : ∃ M, M = ((fl (freshD d n).files d.files.length).b ++ b).length := ⟨_, rfl⟩
     rw [<- hW3] at HD2 HON2
     rw [<- hM]
     rw [<- hM] at HW3
     clear ho2 hg2 hl2 hd2 hon2 hne hvs' hW3 hM g0 y0
     go_upto_region 12 with fail
     rw [<- HW3.out]
     clear HW3 g2 y2
     obtain ⟨⟨-, k1, -, -, -, -⟩, j1, -⟩ := HD2.out.cells
     obtain ⟨W4, hW4⟩ : ∃ W4, W4 = W3.setCell ⟨p, 1, none⟩ (.int .i64 (U + (b.length : Int))) := ⟨_, rfl⟩
     have HD3 := hide (HD2.out.setHead 1 (.int .i64 (U + (b.length : Int))) (d' := { (freshD d n) with files := growF (freshD d n).files d.files.length b }) (u' := U + (b.length : Int)) ⟨rfl, rfl, rfl⟩ rfl)
     have HON3 : Hid (Only F w W4) := hide (by
       rw [hW4]
       exact (HON1.out.trans HON2.out (fun k hk hf => (HGR1.out k hf).resolve_right (by omega))).setCell 1 (fun hlt => ((HGR1.out p H1.out.fh).resolve_right (by omega))) _)
     rw [<- hW4] at HD3
     have HW4 := hide hW4
     clear hW4
     go_upto_region 13 with fail
     rw [<- HW4.out]
     clear HW4 k1 j1
     go_wp2_with fail
     refine (done_any W4 HD3.out HI1.out.2).mono ?_
     rintro e W5 ⟨rfl, hd5, hon5⟩
     go_wp2
     go_ret
     refine DidF.appended HOK1.out HBN1.out HI1.out HLK1.out (by rw [<- HU1.out]; exact hd5) ((HON3.out.trans hon5 (fun k hk hf => ?_))) (fun k hk => ?_) (by omega)
     · rcases hf with hf | hf
       · exact (HGR1.out k hf).resolve_right (by omega)
       · have := HON1.out.size; omega
     · rcases hk with hk | hk
       · exact HGR1.out k hk
       · have := HON1.out.size; exact .inr (by omega)

theorem Own.nil (w : World) (B : Nat) : Own w B (.slice none 0 0) [] := World.ownsRow_nil w B 5 1

theorem run_append_rd (w : World) (ty : TypeId) (B : Nat) (v : Value) (l0 : List UInt8) (hown : Own w B v l0) (vx : Value) (l : List UInt8) (hr : Rd w vx l)
   (hlim : l0.length + l.length <= 70368744177664) (hbase : B <= w.heap.size) :
   ∃ v' w', (Builtin.append_ #[53, 53] ty #[v, vx]).run Tryz.prog w = .ok v' w' ∧ Own w' B v' (l0 ++ l) ∧ Below B w w' := by
 obtain ⟨i0, hi, hz0, hz1, hz2⟩ := info_parts info8
 obtain ⟨ao, cap, rfl, hlc, hcm, hn0, hao⟩ := hr
 cases ao with
 | none =>
   have hc := hn0 rfl
   subst hc
   have hl : l = [] := List.eq_nil_of_length_eq_zero (by omega)
   subst hl
   have hrun := run_append_owned_none (P := Tryz.prog) w B 53 ty 5 i0 1 Tryz.underlying53 hi v l0.length (Lib.byteCells l0) hown
   exact ⟨v, w, hrun, by rw [List.append_nil]; exact hown, Below.refl _ _⟩
 | some a =>
   obtain ⟨v', w', hrun, ho, hg, _⟩ := run_append_own (P := Tryz.prog) w B 53 ty 5 i0 (.int .u8 0) 1 1 Tryz.underlying53 hi hz0 hz1 hz2 rfl (by decide) v l0.length (Lib.byteCells l0) hown a l.length cap (Lib.byteCells l)
     (by rw [byteCells_length, Nat.mul_one]) (Rd.cells hao a rfl) (byteCells_one l) (by unfold maxLen; omega) (by omega) hbase
   refine ⟨v', w', hrun, Own.mk' ho (by simp) (by simp [Lib.byteCells]), ?_⟩
   exact (Below.refl _ _).grown hg hbase (fun k hk => (World.ownsRow.lt hown k hk).1)

theorem wp_append_rd {o : Oper} {a : Act} {K : Act -> World -> Prop} {Q : Exit -> Act -> World -> Prop} (w : World) (s x : Operand)
   (ho : o.op = .call { callee := .builtin .append, args := #[s, x], argTypes := #[53, 53] })
   (B : Nat) (v : Value) (l0 : List UInt8) (hs : a.eval s = v) (hown : Own w B v l0) (vx : Value) (l : List UInt8) (hx : a.eval x = vx) (hr : Rd w vx l)
   (hlim : l0.length + l.length <= 70368744177664) (hbase : B <= w.heap.size)
   (h : ∀ v' w', Own w' B v' (l0 ++ l) -> Below B w w' -> K (a.put o.dst v') w') : o.wp Tryz.prog a w K Q := by
 obtain ⟨v', w', hrun, h2, h3⟩ := run_append_rd w o.type B v l0 hown vx l hr hlim hbase
 unfold Oper.wp execOp
 simp only [ho, resolve, invoke, builtin, Sem.run_bind, Sem.run_pure, Result.andThen_ok, List.map_toArray, List.map_cons, List.map_nil, hs, hx, hrun]
 exact h v' w' h2 h3

theorem wpList_append_rd (w : World) {ops : Array Oper} {rest : List Oper} {o : Oper} {a : Act} {Q : Exit -> Act -> World -> Prop} (hgd : o.guard = none) (s x : Operand)
   (ho : o.op = .call { callee := .builtin .append, args := #[s, x], argTypes := #[53, 53] })
   (B : Nat) (v : Value) (l0 : List UInt8) (hs : a.eval s = v) (hown : Own w B v l0) (vx : Value) (l : List UInt8) (hx : a.eval x = vx) (hr : Rd w vx l)
   (hlim : l0.length + l.length <= 70368744177664) (hbase : B <= w.heap.size)
   (h : ∀ v' w', Own w' B v' (l0 ++ l) -> Below B w w' -> wpList Tryz.prog ops Q rest (a.put o.dst v') w') : wpList Tryz.prog ops Q (o :: rest) a w :=
 wpList_plain hgd fun _ hK => wp_append_rd w s x ho B v l0 hs hown vx l hx hr hlim hbase fun v' w' h2 h3 => hK _ _ (h v' w' h2 h3)

theorem ownMade0 (w : World) (B : Nat) (hB : B <= w.heap.size) : Own (w.alloc (.cells #[] 5)) B (.slice (some ⟨w.heap.size, 0, none⟩) 0 0) [] :=
 ⟨rfl, .inr ⟨w.heap.size, 0, #[], rfl, hB, heap_alloc_new w _, Nat.le_refl _, Nat.zero_le _, rfl, rfl⟩⟩

theorem cloneF_any (v : Value) (l : List UInt8) (w : World) (hr : Rd w v l) (hlim : l.length <= 70368744177664) :
   Calls Tryz.prog 117 #[v] w fun e w' => ∃ v', e = .returned v' ∧ Own w' w.heap.size v' l ∧ Below w.heap.size w w' := by
 have HR := hide hr
 obtain ⟨ao, cap, rfl, hlc, hcm, hn0, hao⟩ := hr
 cases ao with
 | none =>
   have hc := hn0 rfl
   have hl : l = [] := List.eq_nil_of_length_eq_zero (by omega)
   subst hl
   subst hc
   clear hao hn0
   have hnil : ∀ w, (binOp .eql 53 (.slice none 0 0) (.slice none 0 0)).run Tryz.prog w = .ok (.bool true) w := fun w => run_eql_slice_nil w _ _ none 0 0 Tryz.underlying53
   go_enter Tryz.func117, Tryz.ntmps117
   go_wp2
   go_ret
   exact ⟨_, rfl, Own.nil _ _, Below.refl _ _⟩
 | some ad =>
   clear hao hn0 hlc hcm
   have hnil : ∀ w, (binOp .eql 53 (.slice (some ad) l.length cap) (.slice none 0 0)).run Tryz.prog w = .ok (.bool false) w := fun w => run_eql_slice_nil w _ _ (some ad) _ _ Tryz.underlying53
   have HO := hide (ownMade0 w w.heap.size (Nat.le_refl _))
   have HB := hide ((Below.refl w.heap.size w).alloc (Nat.le_refl _) (.cells #[] 5))
   have HR1 := hide (HR.out.below HB.out (Nat.le_refl _))
   have HS : Hid (w.heap.size <= (w.alloc (.cells #[] 5)).heap.size) := HB.out.size
   go_enter Tryz.func117, Tryz.ntmps117
   go_wp2_with (at_builtin; refine wpList_append_rd _ rfl _ _ rfl w.heap.size _ [] rfl HO.out _ l rfl HR1.out (by simp; omega) HS.out ?_)
   intro v4 w4 ho4 hb4
   have HO4 := hide ho4
   have HB4 := hide (HB.out.trans hb4)
   clear ho4 hb4
   go_wp2
   go_ret
   exact ⟨v4, rfl, HO4.out, HB4.out⟩

theorem readF_any {F : Nat -> Prop} {p : Nat} {d : Dk} {N T : Nat} (n : Int) (hn : I64 n) (w : World) (h : Dsk F w p d N T) (hT : T <= 1000000000) :
   Calls Tryz.prog 82 #[ptr p, .int .i64 n] w fun e w' => ∃ v, e = .returned (.tuple #[v, .int .i64 (readD d n).2]) ∧ Own w' w.heap.size v (readD d n).1 ∧ Below w.heap.size w w' := by
 obtain ⟨L, h, hok, hbn, -, -⟩ := h
 have HF := hide (find_any n hn w h)
 have H := hide h
 have HOK := hide hok
 have HBN := hide hbn
 clear h hok hbn
 unfold readD
 by_cases h0 : d.power = 0
 · rw [if_pos h0]
   rw [if_pos h0, if_pos h0] at HF
   clear h0
   go_enter Tryz.func82, Tryz.ntmps82
   go_wp2_with fail
   refine HF.out.mono ?_
   rintro e w' ⟨rfl, rfl⟩
   go_wp2
   go_ret2
   exact ⟨_, rfl, Own.nil _ _, Below.refl _ _⟩
 rw [if_neg h0]
 rw [if_neg h0, if_neg h0] at HF
 clear h0
 cases ho : look (dirD d) n with
 | none =>
   rw [ho] at HF
   dsimp only [Option.map_none, Option.isSome_none, Bool.false_eq_true, if_false, ptrO] at HF ⊢
   clear ho
   go_enter Tryz.func82, Tryz.ntmps82
   go_wp2_with fail
   refine HF.out.mono ?_
   rintro e w' ⟨rfl, rfl⟩
   go_wp2
   go_ret2
   exact ⟨_, rfl, Own.nil _ _, Below.refl _ _⟩
 | some f =>
   rw [ho] at HF
   dsimp only [Option.map_some, Option.isSome_some, if_true, ptrO] at HF ⊢
   have hf : f < d.files.length := (HOK.out.dir.mayOf ho).2
   obtain ⟨c0, -⟩ := (H.out.rest.file f hf).box.cell 0 rfl
   have HRD := hide (H.out.rest.file f hf).own.rd
   have HC := hide (cloneF_any _ _ w HRD.out (by have := HBN.out.bytes _ (mem_fl hf); omega))
   obtain ⟨va, vc, hvs⟩ := (H.out.rest.file f hf).own.shape
   rw [hvs] at c0 HC
   clear ho hf hvs hT hn
   go_enter Tryz.func82, Tryz.ntmps82
   go_wp2_with fail
   refine HF.out.mono ?_
   rintro e w' ⟨rfl, rfl⟩
   go_wp2_with fail
   refine HC.out.mono ?_
   rintro e w1 ⟨v1, rfl, ho1, hb1⟩
   go_wp2
   go_ret2
   exact ⟨_, rfl, ho1, hb1⟩

theorem sync_any {F : Nat -> Prop} {p : Nat} {d : Dk} {N T : Nat} (n : Int) (hn : I64 n) (w : World) (h : Dsk F w p d N T) :
   Calls Tryz.prog 62 #[ptr p, .int .i64 n] w fun e w' => DidF F w p (syncD d n).1 (syncD d n).2 (N + 2) T e w' := by
 have HD := hide h
 obtain ⟨L, h, hok, hbn, hrm, hpw⟩ := h
 have HF := hide (find_any n hn w h)
 have H := hide h
 have HOK := hide hok
 have HBN := hide hbn
 have HI := hide (And.intro hrm hpw)
 clear h hok hbn hrm hpw
 unfold syncD
 by_cases h0 : d.power = 0
 · rw [if_pos h0]
   rw [if_pos h0, if_pos h0] at HF
   clear h0
   go_enter Tryz.func62, Tryz.ntmps62
   go_wp2_with fail
   refine HF.out.mono ?_
   rintro e w' ⟨rfl, rfl⟩
   go_wp2
   go_ret
   exact DidF.same HD.out (by omega) (Nat.le_refl _)
 rw [if_neg h0]
 rw [if_neg h0, if_neg h0] at HF
 clear h0
 cases ho : look (dirD d) n with
 | none =>
   rw [ho] at HF
   dsimp only [Option.map_none, Option.isSome_none, Bool.false_eq_true, if_false, ptrO] at HF ⊢
   clear ho
   go_enter Tryz.func62, Tryz.ntmps62
   go_wp2_with fail
   refine HF.out.mono ?_
   rintro e w' ⟨rfl, rfl⟩
   go_wp2
   go_ret
   exact DidF.same HD.out (by omega) (Nat.le_refl _)
 | some f =>
   rw [ho] at HF
   dsimp only [Option.map_some, Option.isSome_some, if_true, ptrO] at HF ⊢
   have HLK := hide ho
   have hf : f < d.files.length := (HOK.out.dir.mayOf ho).2
   have HX := hide (H.out.rest.file f hf)
   obtain ⟨c0, -⟩ := (H.out.rest.file f hf).box.cell 0 rfl
   obtain ⟨c1, f1⟩ := (H.out.rest.file f hf).box.cell 1 rfl
   have HD1 : Hid (DiskL F (w.setCell ⟨L.ps f, 1, none⟩ (.int .i64 ((fl d.files f).b.length : Int))) p { L with vs := fun i => if i = f then L.vs f else L.vs i } { d with files := keepF d.files f } (usedD d) N) := hide (H.out.setFile (F' := F) (v' := L.vs f) (x' := ⟨(fl d.files f).b, (fl d.files f).b.length⟩) hf (fun k _ h1 _ => Below.heap_setCell _ _ _ _ h1) ⟨HX.out.box.set 1 _, ownsRow_keep HX.out.own fun g hg => Below.heap_setCell _ _ _ _ (by
     obtain ⟨cs', hb'⟩ := ownBk HX.out.own hg
     exact hb'.ne HX.out.box (by decide))⟩ (.inl rfl) (fun _ hk => hk) (fun g hg => H.out.rest.fv f hf g hg) (fun k hk => by simpa using H.out.lt k hk))
   have HON1 : Hid (Only F w (w.setCell ⟨L.ps f, 1, none⟩ (.int .i64 ((fl d.files f).b.length : Int)))) := hide ((Only.refl _ _).setCell 1 (fun _ => H.out.rest.fp f hf) _)
   obtain ⟨va, vc, hvs⟩ := HX.out.own.shape
   rw [hvs] at c0
   obtain ⟨W1, hW1⟩ : ∃ W1, W1 = w.setCell ⟨L.ps f, 1, none⟩ (.int .i64 ((fl d.files f).b.length : Int)) := ⟨_, rfl⟩
   rw [<- hW1] at HD1 HON1
   have HW1 := hide hW1
   clear ho hf hvs hn hW1
   go_enter Tryz.func62, Tryz.ntmps62
   go_wp2_with fail
   refine HF.out.mono ?_
   rintro e w' ⟨rfl, rfl⟩
   go_upto_region 5 with fail
   rw [<- HW1.out]
   clear HW1 c0 c1 f1
   go_wp2_with fail
   refine (done_any W1 HD1.out HI.out.2).mono ?_
   rintro e W5 ⟨rfl, hd5, hon5⟩
   go_wp2
   go_ret
   refine ⟨rfl, F, ⟨{ L with vs := fun i => if i = f then L.vs f else L.vs i }, ?_, ?_, ⟨?_, ?_, ?_⟩, HI.out.1, tick_i64 HI.out.2⟩, HON1.out.trans hon5 (fun _ _ hf => hf), fun _ hk => .inl hk⟩
   · rw [usedD_keep HOK.out HLK.out]
     exact hd5.mono (by omega)
   · exact HOK.out.bytes (by simp [keepF]) (keep_set HOK.out.keep _ (Nat.le_refl _))
   · have := HBN.out.files
     show (keepF d.files f).length <= _
     simp [keepF]
     omega
   · have := HBN.out.names
     show d.kept.length + d.waits.length <= _
     omega
   · intro x hx
     rcases List.mem_or_eq_of_mem_set hx with hx | rfl
     · exact HBN.out.bytes x hx
     · have := HBN.out.bytes _ (mem_fl (HOK.out.dir.mayOf HLK.out).2)
       exact this

theorem DiskL.drewN {F : Nat -> Prop} {w : World} {p : Nat} {L : Lay} {d : Dk} {u : Int} {N : Nat} (h : DiskL F w p L d u N) (q : Nat) : DiskL F (w.drewN q) p L d u N := h.keep (fun _ _ => rfl) (Nat.le_refl _)

open Go.RowKit Go.ChangeShapes

theorem cells_int : Tryz.prog.cellsOf 3 = 1 := by kernel_rfl

theorem cells_ints : Tryz.prog.cellsOf 23 = 1 := by kernel_rfl

theorem i64_of_wf {n : Int} (h : (Lit.int .i64 n).wf = true) : I64 n := by
 simpa [I64, Lit.wf, IntKind.min, IntKind.max, IntKind.signed, IntKind.bits] using h

section
variable {H : Type} {enc : TypeId × Value -> H} {w : World} {base fuel : Nat} {held : Bool}

theorem open_rdI {cs : List Value} {x : DataW H × List MemPlace} (h : DataW.trod enc Tryz.prog w base (fun _ => true) held fuel 23 cs = some x) : ∃ v l, cs = [v] ∧ RdI w v l := by
 rcases open_ints Tryz.underlying23 Tryz.underlying3 (by kernel_rfl) h with ⟨hcs, _⟩ | ⟨y, l, c, zs, hcs, _, hl, hm, hz, _, hcell, hwz⟩
 · exact ⟨_, [], hcs, RdI.nil _⟩
 · exact ⟨_, _, hcs, RdI.ofRow hl hm (by simpa using hz) hcell hwz⟩

end

open Go.RowKit Go.Maps Go.Shelf

theorem sortI_any {B : Nat} {v : Value} {l : List Int} (w : World) (h : OwnI w B v l) (hl : l.length <= 10000000) :
   Calls Tryz.prog 75 #[v] w fun e w' => e = .returned (.tuple #[]) ∧ OwnI w' B v (l.mergeSort fun x y => decide (x <= y)) ∧ w.grownBy w' v.ownBlock := by
 have h0 := h
 have hg0 : w.grownBy w v.ownBlock := ⟨rfl, rfl, rfl, Nat.le_refl _, fun _ _ _ => rfl⟩
 rcases h.2 with ⟨rfl, hn⟩ | ⟨g, cap, cur, rfl, hb, hg, hnc, hcm, hcs, ht⟩
 · have e : l = [] := List.eq_nil_of_length_eq_zero hn
   subst e
   have hc := Any.slices_Sort_int_none layS none 0 w
   refine hc.mono ?_
   rintro e w' ⟨rfl, rfl⟩
   exact ⟨rfl, by simpa using h0, hg0⟩
 · by_cases e : l = []
   · subst e
     have hc := Any.slices_Sort_int_none layS (some ⟨g, 0, none⟩) cap w
     refine hc.mono ?_
     rintro e w' ⟨rfl, rfl⟩
     exact ⟨rfl, by simpa using h0, hg0⟩
   · have hH : Sort.Holds (Value.int .i64) w g 0 l.toArray := holds_of_blockI hg (by rw [Nat.mul_one] at ht; exact ht)
     have hc := Any.slices_Sort_int layS g 0 cap l w hH (Array.getElem?_eq_some_iff.1 hg).1 (by omega)
     refine hc.mono ?_
     rintro e w' ⟨rfl, n, os, rfl⟩
     refine ⟨rfl, ?_, grownBy_sortedI _⟩
     have ho := ownsRow_sortedI (n := n) (os := os) (ss := l) (ts := l.mergeSort fun x y => decide (x <= y)) (by simp) hb hg hnc hcm hcs
     unfold OwnI
     rw [show (l.mergeSort fun x y => decide (x <= y)).length = l.length by simp]
     exact ho

structure Met (f : Int -> Option Nat) (left : Lit -> Bool) (l : List Int) : Prop where
 mem : ∀ p, I64 p -> (p ∈ l ↔ (f p).isSome = true ∧ left (.int .i64 p) = false)
 nd : l.Nodup
 i : ∀ p ∈ l, I64 p

theorem Met.step {f : Int -> Option Nat} {left : Lit -> Bool} {l : List Int} (h : Met f left l) {x : Int} (hx : I64 x) (hl : left (.int .i64 x) = true) (hf : (f x).isSome = true) : Met f (fun z => left z && !z.sameKey (.int .i64 x)) (l ++ [x]) := by
 refine ⟨fun p hp => ?_, ?_, fun p hp => ?_⟩
 · rw [List.mem_append, h.mem p hp, List.mem_singleton]
   by_cases e : p = x
   · subst e
     have hs : (Lit.int .i64 p).sameKey (.int .i64 p) = true := WideAt.sameKey_self (by first | exact trivial | simp [WideAt.IsKeyLit])
     simp [hs, hf]
   · have hs : (Lit.int .i64 p).sameKey (.int .i64 x) = false := sameKey_ne (by intro h; injection h with _ h; exact e h)
     simp [hs, e]
 · rw [List.nodup_append]
   refine ⟨h.nd, by simp, fun a ha b hb => ?_⟩
   rw [List.mem_singleton.1 hb]
   rintro rfl
   have := ((h.mem a hx).1 ha).2
   rw [hl] at this
   cases this
 · rcases List.mem_append.1 hp with hp | hp
   · exact h.i p hp
   · rw [List.mem_singleton.1 hp]; exact hx

theorem Met.done {f : Int -> Option Nat} {left : Lit -> Bool} {l : List Int} (h : Met f left l) (hl : ∀ k, left k = false) {d : Dir} (hd : RisingD d) (hm : ∀ p ∈ d, I64 p.1) (hf : ∀ p, I64 p -> (f p).isSome = (look d p).isSome) : (l.mergeSort fun x y => decide (x <= y)) = d.map Prod.fst := by
 have hs : (l.mergeSort fun x y => decide (x <= y)).Pairwise (fun a b => decide (a <= b) = true) := List.pairwise_mergeSort (fun a b c h1 h2 => by simp only [decide_eq_true_eq] at *; omega) (fun a b => by simp only [Bool.or_eq_true, decide_eq_true_eq]; omega) l
 have hp := List.mergeSort_perm l fun x y => decide (x <= y)
 have hnd : (l.mergeSort fun x y => decide (x <= y)).Nodup := hp.nodup_iff.2 h.nd
 refine eq_of_rising ?_ (rising_names hd) fun x => ?_
 · refine (hs.and hnd).imp fun {a b} hab => ?_
   have h1 := of_decide_eq_true hab.1
   have h2 := hab.2
   omega
 · rw [hp.mem_iff, List.mem_map]
   constructor
   · intro hx
     have h1 := ((h.mem x (h.i x hx)).1 hx).1
     rw [hf x (h.i x hx)] at h1
     obtain ⟨y, hy⟩ := Option.isSome_iff_exists.1 h1
     exact ⟨(x, y), (look_mem hd x y).1 hy, rfl⟩
   · rintro ⟨p, hpd, rfl⟩
     have hi := hm p hpd
     have h1 : look d p.1 = some p.2 := (look_mem hd p.1 p.2).2 hpd
     exact (h.mem p.1 hi).2 ⟨by rw [hf p.1 hi, h1]; rfl, hl _⟩

theorem size_le_of_owns {w : World} {b n : Nat} {D : DataW Unit} (h : w.ownsMap Tryz.prog 3 ptrElem b n D) : Maps.size D <= n := by
 obtain ⟨es, clock, hb, F, hs, rfl⟩ := h
 rw [size_eq, length_sorted]
 simpa using hs

theorem ranges_keep {w w' : World} {b r n cnt : Nat} {D : DataW Unit} {left : Lit -> Bool} (h : w.ranges Tryz.prog 3 ptrElem b r n D left cnt) (hb : w'.heap[b]? = w.heap[b]?) (hr : w'.heap[r]? = w.heap[r]?) : w'.ranges Tryz.prog 3 ptrElem b r n D left cnt := by
 obtain ⟨es, clock, since, seen, c0, h1, F, hs, hD, h2, rest⟩ := h
 exact ⟨es, clock, since, seen, c0, hb.trans h1, F, hs, hD, hr.trans h2, rest⟩

set_option maxHeartbeats 2000000 in
theorem names_any {F : Nat -> Prop} {p : Nat} {L : Lay} {d : Dk} {u : Int} {N : Nat} (w : World) (h : DiskL F w p L d u N) (hok : OkD d) (hN : N <= 1000000) :
   Calls Tryz.prog 33 #[ptr p] w fun e w' => ∃ v, e = .returned v ∧ OwnI w' w.heap.size v ((dirD d).map Prod.fst) ∧ Below w.heap.size w w' := by
 obtain ⟨⟨-, -, c2, -, -, -⟩, -⟩ := h.cells
 obtain ⟨D, hown, hrd⟩ := h.rest.now
 have HOW := hide hown
 have HSZ : Hid (Maps.size D <= N) := hide (size_le_of_owns hown)
 have HLT : Hid (L.now < w.heap.size) := hide h.rest.now.lt
 have HRD : Hid (∀ q, I64 q -> Maps.has D (.int .i64 q) = (look (dirD d) q).isSome) := hide (fun q hq => by rw [hrd.has hq]; cases look (dirD d) q <;> rfl)
 have HDN : Hid (∀ left l, Met (look (dirD d)) left l -> (∀ k, left k = false) -> (l.mergeSort fun x y => decide (x <= y)) = (dirD d).map Prod.fst) := hide (fun left l hm hl => hm.done hl hok.dir.rise (fun p hp => mayF_i64 (hok.dir.may p hp).1) (fun _ _ => rfl))
 clear h hown hrd hok
 go_enter Tryz.func33, Tryz.ntmps33
 go_wp2_with (first
   | (at_range; refine wpList_range_own _ rfl _ 69 rfl 3 109 dirKeys Tryz.underlying69 ptrElem L.now N D rfl HOW.out ?_; intro w0 hrg0 hg0 hs0)
   | go_in)
 go_frame
 go_loopw [3] (fun v wr => ∃ (left : Lit -> Bool) (cnt : Nat) (l : List Int), Hid (wr.ranges Tryz.prog 3 ptrElem L.now w.heap.size N D left cnt) ∧ cnt + l.length <= Maps.size D ∧ Hid (OwnI wr (w.heap.size + 1) v l) ∧ Hid (Met (look (dirD d)) left l) ∧ Hid (Below w.heap.size w wr ∧ w.heap.size + 1 <= wr.heap.size))
   (fun _ wr => wr.rangeLeft L.now w.heap.size)
 case atStart =>
   refine ⟨_, _, [], hide hrg0, by simp, hide (OwnI.nil _ _), hide ⟨fun q hq => ?_, List.nodup_nil, by simp⟩, hide ⟨⟨hg0.os, hg0.tape, hg0.output, hg0.size, fun k hk => hg0.block k hk (by simp)⟩, by omega⟩⟩
   rw [HRD.out q hq]
   cases look (dirD d) q <;> simp
 case round =>
   obtain ⟨left, cnt, l, HRG, hcl, HO, HM, HB⟩ := hrel
   go_wp2_with (first
     | (at_next; refine wpList_next_ranges _ rfl _ rfl 3 dirKeys ptrElem (Value.int .i64) (fun b : Nat => ptr b) (fun key kl hk => by obtain ⟨x, rfl, _⟩ := Maps.keyOf_int_inv Tryz.underlying3 hk; exact ⟨x, rfl⟩) (fun v y hv => by obtain ⟨c, rfl, _⟩ := ptrElem_inv hv; exact ⟨c, rfl⟩) L.now w.heap.size N _ _ _ rfl HRG.out ?_ ?_)
     | go_in)
   · intro hc0 hl0
     have HL0 := hide hl0
     have hll : l.length <= 10000000 := by have := HSZ.out; omega
     have HS := hide (sortI_any _ HO.out hll)
     clear hc0 hl0
     go_wp2_with fail
     refine HS.out.mono ?_
     rintro e W1 ⟨rfl, ho1, hg1⟩
     have HBW : Hid (Below w.heap.size w W1) := hide (HB.out.1.grown hg1 HB.out.1.size (fun k hk => by have := (World.ownsRow.lt HO.out k hk).1; omega))
     have HO1 := hide ho1
     clear ho1 hg1
     go_wp2
     go_ret
     refine ⟨_, rfl, ?_, HBW.out⟩
     rw [<- HDN.out _ _ HM.out HL0.out]
     exact HO1.out.mono (by omega)
   · intro x c kl yd yp w1 cnt1 hkey hlx hv hat hrg1 hlt hg1 hs1 hen
     obtain ⟨x', ex, rfl, hwx⟩ := Maps.keyOf_int_inv Tryz.underlying3 hkey
     cases ex
     have HI := hide (i64_of_wf hwx)
     have HF : Hid ((look (dirD d) x).isSome = true) := hide (by rw [<- HRD.out x HI.out]; exact has_true_of_atKey hat)
     have HM1 := hide (HM.out.step HI.out hlx HF.out)
     have HRG1 := hide hrg1
     have HO1 : Hid (OwnI w1 (w.heap.size + 1) _ l) := hide (World.ownsRow.kept HO.out hg1 (.inr (fun e => by have := (World.ownsRow.lt HO.out _ e).1; omega)))
     have HB1 : Hid (Below w.heap.size w w1 ∧ w.heap.size + 1 <= w1.heap.size) := hide ⟨HB.out.1.grown hg1 HB.out.1.size (fun k hk => by have := Option.some.inj hk; omega), by have := HB.out.2; omega⟩
     have HLTC := hide hlt
     have hlim : l.length <= 1000000 ∧ cnt1 + (l ++ [x]).length <= Maps.size D := by
       have := HSZ.out
       simp only [List.length_append, List.length_singleton]
       omega
     have HLM := hide hlim
     clear hkey hlx hv hat hrg1 hlt hg1 hs1 hwx hlim hcl
     go_wp2_with (at_builtin; refine (fun (h : True -> _) => h trivial) ?_)
     intro _
     refine wpList_append_int w1 rfl _ _ rfl (w.heap.size + 1) u3 l rfl HO1.out x rfl HLM.out.1 HB1.out.2 ?_
     intro v2 w2 ho2 hb2
     have HO2 := hide ho2
     have HRG2 := hide (ranges_keep HRG1.out (hb2.block _ (by have := HLT.out; omega)) (hb2.block _ (by omega)))
     have HB2 : Hid (Below w.heap.size w w2 ∧ w.heap.size + 1 <= w2.heap.size) := hide ⟨HB1.out.1.trans (hb2.mono (by omega)), by have := HB1.out.2; have := hb2.size; omega⟩
     clear ho2 hb2
     go_wp2
     go_roundw
     case rel => exact ⟨_, cnt1, l ++ [x], HRG2, HLM.out.2, HO2, HM1, HB2⟩
     case measure => rw [HRG2.out.left_eq, HRG.out.left_eq]; exact HLTC.out

theorem DiskL.synced {F : Nat -> Prop} {w w1 : World} {p : Nat} {L : Lay} {d : Dk} {u : Int} {N : Nat} (h : DiskL F w p L d u N) (hb : Below w.heap.size w w1) (hs : w1.heap.size = w.heap.size + 1) (hm : MapP w1 w.heap.size N (fun n => (look (dirD d) n).map L.ps)) :
   DiskL (Gr F w w1) ((w1.setCell ⟨p, 3, none⟩ (.map (some w.heap.size))).setCell ⟨p, 4, none⟩ (.slice none 0 0)) p { L with kept := w.heap.size, wv := .slice none 0 0, cs := [] } { d with kept := dirD d, waits := [] } u N := by
 have h1 := h.more hb
 have h0 := h1.rest
 have hk : ∀ k, k ≠ p -> ((w1.setCell ⟨p, 3, none⟩ (.map (some w.heap.size))).setCell ⟨p, 4, none⟩ (.slice none 0 0)).heap[k]? = w1.heap[k]? := fun k hne => by
   rw [Below.heap_setCell _ _ _ _ hne, Below.heap_setCell _ _ _ _ hne]
 have hr := h0.keep h1.head (fun k _ hne => hk k hne)
 refine ⟨(h1.head.set 3 _).set 4 _, ⟨hr.now, hm.keep (hk _ (by have := h.lt p h.fh; show w.heap.size ≠ p; omega)), World.ownsRow_nil _ _ _ _, rfl, (fun i c v hi => by simp at hi), hr.file, hr.psn, hr.vsn, ?_, hr.fn, .inr ⟨Nat.le_refl _, by show w.heap.size < _; omega⟩, (fun g hg => by cases hg), hr.fp, hr.fv⟩, h1.fh, fun k hk => ?_⟩
 · have := h.rest.now.lt
   show L.now ≠ w.heap.size
   omega
 · have := h1.lt k hk
   simpa using this

set_option maxHeartbeats 1000000 in
theorem syncDir_any {F : Nat -> Prop} {p : Nat} {d : Dk} {N T : Nat} (w : World) (h : Dsk F w p d N T) :
   Calls Tryz.prog 110 #[ptr p] w fun e w' => DidF F w p (syncDirD d).1 (syncDirD d).2 (N + 2) T e w' := by
 have HD := hide h
 obtain ⟨L, h, hok, hbn, hrm, hpw⟩ := h
 have H := hide h
 have HOK := hide hok
 have HBN := hide hbn
 have HI := hide (And.intro hrm hpw)
 have HO := hide (on_any w h)
 obtain ⟨⟨-, -, c2, c3, c4, -⟩, -, f3, f4, -⟩ := h.cells
 have HC := hide (cloneM_any h.rest.now)
 clear hok hbn hrm hpw
 unfold syncDirD
 by_cases h0 : d.power = 0
 · rw [if_pos h0]
   rw [h0] at HO
   clear h0 h
   go_enter Tryz.func110, Tryz.ntmps110
   go_wp2_with fail
   refine HO.out.mono ?_
   rintro e w' ⟨rfl, rfl⟩
   go_wp2
   go_ret
   exact DidF.same HD.out (by omega) (Nat.le_refl _)
 rw [if_neg h0]
 have e0 : (d.power != 0) = true := by simpa using h0
 rw [e0] at HO
 clear h0 e0 h
 go_enter Tryz.func110, Tryz.ntmps110
 go_wp2_with fail
 refine HO.out.mono ?_
 rintro e w' ⟨rfl, rfl⟩
 go_wp2_with fail
 refine HC.out.mono ?_
 rintro e W1 ⟨rfl, hm1, hs1, hb1⟩
 have HD1 := hide (H.out.synced hb1 hs1 hm1)
 have HX := hide (H.out.more hb1)
 have HB1 := hide hb1
 obtain ⟨⟨-, -, -, k3, k4, -⟩, -, j3, j4, -⟩ := HX.out.cells
 obtain ⟨va, vn, vc, hvs⟩ := rowShape HX.out.rest.row
 rw [hvs] at k4
 have HON1 : Hid (Only F w' ((W1.setCell ⟨p, 3, none⟩ (.map (some w'.heap.size))).setCell ⟨p, 4, none⟩ (.slice none 0 0))) := hide (((Only.ofBelow hb1).setCell 3 (fun _ => H.out.fh) _).setCell 4 (fun _ => H.out.fh) _)
 obtain ⟨W2, hW2⟩ : ∃ W2, W2 = (W1.setCell ⟨p, 3, none⟩ (.map (some w'.heap.size))).setCell ⟨p, 4, none⟩ (.slice none 0 0) := ⟨_, rfl⟩
 rw [<- hW2] at HD1 HON1
 have HW2 := hide hW2
 have HS1 := hide hs1
 clear c2 c3 c4 f3 f4 hm1 hs1 hb1 hvs hW2
 go_upto_region 5 with fail
 rw [<- HW2.out]
 clear HW2 k3 k4 j3 j4
 go_wp2_with fail
 refine (done_any W2 HD1.out HI.out.2).mono ?_
 rintro e W4 ⟨rfl, hd4, hon4⟩
 go_wp2
 go_ret
 refine ⟨rfl, _, ⟨_, hd4.mono (by omega), okD_kept (fs := d.files) HOK.out.dir HOK.out.keep, ⟨by have := HBN.out.files; show d.files.length <= _; omega, ?_, HBN.out.bytes⟩, HI.out.1, tick_i64 HI.out.2⟩, HON1.out.trans hon4 (fun k hk hf => ?_), fun k hk => ?_⟩
 · have h1 := HBN.out.names
   have h2 := dirK_len d d.waits.length
   rw [dirK_all] at h2
   show (dirD d).length + 0 <= _
   omega
 · rcases hf with hf | hf
   · exact hf
   · omega
 · rcases hk with hk | hk
   · exact .inl hk
   · exact .inr hk.1

open Go.RowKit Go.Maps
open Go.ChangeMaps Go.MapKept
open Go.WideElems (Fit rd rg pl rd_val elemAt)

theorem nodup_len : ∀ {a b : List Int}, a.Nodup -> (∀ x ∈ a, x ∈ b) -> a.length <= b.length
 | [], _, _, _ => Nat.zero_le _
 | x :: a, b, hn, hs => by
   rw [List.nodup_cons] at hn
   have hx := hs x (List.mem_cons_self ..)
   have ih := nodup_len (a := a) (b := b.erase x) hn.2 fun y hy => (List.mem_erase_of_ne (by rintro rfl; exact hn.1 hy)).2 (hs y (List.mem_cons_of_mem _ hy))
   have hl := List.length_erase_of_mem hx
   have hp := List.length_pos_of_mem hx
   rw [List.length_cons]
   omega

def toI : Value -> Int
 | .int _ x => x
 | _ => 0

theorem MapP.tight {w : World} {b n : Nat} {f : Int -> Option Nat} (h : MapP w b n f) {l : List Int} (hl : ∀ p, I64 p -> (f p).isSome = true -> p ∈ l) : MapP w b l.length f := by
 obtain ⟨D, ⟨es, clock, hb, F, hs, rfl⟩, h2⟩ := h
 have hkey : ∀ e ∈ es.toList, ∃ x, e.key = .int .i64 x ∧ I64 x := fun e he => by
   obtain ⟨y, hy⟩ := F.reads e he
   obtain ⟨x, hx, _, hw⟩ := Maps.keyOf_int_inv Tryz.underlying3 (WideElems.rd_key hy)
   exact ⟨x, hx, i64_of_wf hw⟩
 refine ⟨_, ⟨es, clock, hb, F, ?_, rfl⟩, h2⟩
 have hnd : (es.toList.map fun e => toI e.key).Nodup := by
   have hp := ((stamped_iff es clock).1 F.stamped).2.2
   rw [List.Nodup, List.pairwise_map]
   refine List.Pairwise.imp_of_mem ?_ hp
   intro a c ha hc hne e
   obtain ⟨x, hx, _⟩ := hkey a ha
   obtain ⟨y, hy, _⟩ := hkey c hc
   rw [hx, hy] at e
   have : x = y := e
   exact hne (by rw [hx, hy, this])
 have hsub : ∀ x ∈ (es.toList.map fun e => toI e.key), x ∈ l := fun x hx => by
   obtain ⟨e, he, rfl⟩ := List.mem_map.1 hx
   obtain ⟨x, hx, hi⟩ := hkey e he
   rw [hx]
   refine hl x hi ?_
   rcases Maps.fit_look false dirKeys Tryz.underlying69 (dirZero w) hb F (keyOf_int_mk Tryz.underlying3 (wf64p hi)) with ⟨_, hno, _⟩ | ⟨e0, y, _, _, _, hRv, hat, _⟩
   · exact absurd hx (hno e he)
   · cases ef : f x with
     | some _ => rfl
     | none =>
       obtain ⟨z0, _, rfl⟩ := ptrElem_inv hRv
       refine (lit_ne (x := z0) fun z => ?_).elim
       have h3 := hat z
       rw [h2 x hi z, ef] at h3
       exact h3.symm
 have := nodup_len hnd hsub
 simpa using this

theorem rowHead {w : World} {n s : Nat} {t : TypeId} {v : Value} {xs : List Value} (h : w.ownsRow 0 t s v n xs) : ∃ ao cap, v = .slice ao n cap ∧ n <= cap ∧ ((ao = none ∧ cap = 0) ∨ ∃ g, ao = some ⟨g, 0, none⟩) := by
 rcases h.2 with ⟨hv, hn⟩ | ⟨g, cap, cur, hv, _, _, hc, _⟩
 · exact ⟨none, 0, by rw [hv, hn], by omega, .inl ⟨rfl, rfl⟩⟩
 · exact ⟨some ⟨g, 0, none⟩, cap, hv, hc, .inr ⟨g, rfl⟩⟩

theorem _root_.Go.World.grownBy.trans2 {a b c : World} {r : Nat} (h : a.grownBy b (some r)) (k : b.grownBy c (some r)) : a.grownBy c (some r) := grownBy_two h k

theorem DiskL.lost {F : Nat -> Prop} {w w' : World} {p : Nat} {L : Lay} {d : Dk} {u : Int} {N : Nat} {l : Dir} (h : DiskL F w p L d u N) (hs : w.heap.size <= w'.heap.size)
   (hk : ∀ k, F k -> k ≠ p -> k ≠ L.now -> k ≠ L.kept -> w'.heap[k]? = w.heap[k]?) (hh : Bk 73 w' p (headC { L with wv := .slice none 0 0, cs := [] } d u))
   (hm1 : MapP w' L.now N (fun n => (look l n).map L.ps)) (hm2 : MapP w' L.kept N (fun n => (look l n).map L.ps)) :
   DiskL F w' p { L with wv := .slice none 0 0, cs := [] } { d with kept := l, waits := [] } u N := by
 have h0 := h.rest
 have hb : ∀ {t : TypeId} {k : Nat} {cs : Array Value}, Bk t w k cs -> F k -> t ≠ 73 -> w'.heap[k]? = w.heap[k]? := fun hb hf ht => hk _ hf (hb.ne h.head ht) (hb.neMap h0.now) (hb.neMap h0.kept)
 refine ⟨hh, ⟨hm1, hm2, World.ownsRow_nil _ _ _ _, rfl, (fun i c v hi => by simp at hi), fun i hi => ?_, h0.psn, h0.vsn, h0.nk, h0.fn, h0.fk, (fun g hg => by cases hg), h0.fp, h0.fv⟩, h.fh, fun k hf => by have := h.lt k hf; omega⟩
 refine (h0.file i hi).keep (hb (h0.file i hi).box (h0.fp i hi) (by decide)) fun g hg => ?_
 obtain ⟨cs', hb'⟩ := ownBk (h0.file i hi).own hg
 exact hb hb' (h0.fv i hi g hg) (by decide)

set_option maxRecDepth 100000 in
set_option maxHeartbeats 2000000 in
theorem loseChanges_any {F : Nat -> Prop} {p : Nat} {L : Lay} {d : Dk} {u : Int} {N T : Nat} (names : Int) (w : World) (h : DiskL F w p L d u N) (hok : OkD d) (hbn : Bnd d N T) (hN : N <= 1000000) :
   Calls Tryz.prog 35 #[ptr p, .int .i64 names] w fun e w' => e = .returned (.tuple #[]) ∧ DiskL F w' p { L with wv := .slice none 0 0, cs := [] } { d with kept := dirK d (shareN names d.waits.length), waits := [] } u N ∧ Only F w w' := by
 have H := hide h
 have HOK := hide hok
 have HBN := hide hbn
 have hW : d.waits.length <= N := by have := hbn.names; omega
 obtain ⟨K, hK⟩ : ∃ K, K = shareN names d.waits.length := ⟨_, rfl⟩
 have hKl : K <= d.waits.length := by rw [hK]; exact shareN_le _ _
 rw [<- hK]
 have HSH : Hid (∀ q, Calls Tryz.prog 79 #[.int .i64 names, .int .i64 (d.waits.length : Int)] (w.drewN q) fun e w' => e = .returned (.int .i64 (K : Int)) ∧ w' = w.drewN q) := hide (fun q => by rw [hK]; exact share_any names d.waits.length (by omega) (w.drewN q))
 obtain ⟨⟨-, -, -, c3, c4, -⟩, -, -, f4, -⟩ := h.cells
 obtain ⟨ao, cap, hwv, hcap, hao⟩ := rowHead h.rest.row
 rw [h.rest.many] at hwv hcap
 rw [hwv] at c4
 have HWV := hide hwv
 have HCELL : Hid (∀ k, k < K -> ∃ g c cv, ao = some ⟨g, 0, none⟩ ∧ d.waits[k]? = some c ∧ ChV F w L.ps c cv ∧ w.cell? ⟨g, k, none⟩ = some cv ∧ okCh d.files.length c ∧ dirK d (k + 1) = chD (dirK d k) c ∧ g ≠ L.kept) := hide (fun k hk => by
   have hk' : k < d.waits.length := by omega
   have hkc : k < L.cs.length := by rw [h.rest.many]; exact hk'
   rcases hao with ⟨_, hc0⟩ | ⟨g, rfl⟩
   · omega
   · have hob : L.wv.ownBlock = some g := by rw [hwv]; rfl
     refine ⟨g, d.waits[k], L.cs[k], rfl, List.getElem?_eq_getElem hk', h.rest.wait k _ _ (List.getElem?_eq_getElem hk') (List.getElem?_eq_getElem hkc), ?_, hok.chs _ (List.getElem_mem hk'), dirK_succ d hk', ?_⟩
     · have := World.ownsRow.cells h.rest.row hob k _ (List.getElem?_eq_getElem hkc)
       rw [Addr.add_lit, Nat.zero_add] at this
       exact this
     · obtain ⟨cs', hb'⟩ := ownBk h.rest.row hob
       exact hb'.neMap h.rest.kept)
 clear hok hbn hwv hao hK h
 go_enter Tryz.func35, Tryz.ntmps35
 go_wp2
 refine wp_region_quiet_lit (by kernel_rfl) (by kernel_rfl) ?_
 repeat (go_big_quiet_step ((go_at_call 79; exact Calls.quiet_of_same (HSH.out _))))
 refine wpQuiet_nil ?_
 rintro _ ⟨nq, rfl⟩
 have HW : Hid (DiskL F (w.drewN nq) p L d u N) := hide (H.out.drewN nq)
 have HCW : Hid (∀ k, k < K -> ∃ g c cv, ao = some ⟨g, 0, none⟩ ∧ d.waits[k]? = some c ∧ ChV F (w.drewN nq) L.ps c cv ∧ (w.drewN nq).cell? ⟨g, k, none⟩ = some cv ∧ okCh d.files.length c ∧ dirK d (k + 1) = chD (dirK d k) c ∧ g ≠ L.kept) := hide (fun k hk => by
   obtain ⟨g, c, cv, h1, h2, h3, h4, h5, h6⟩ := HCELL.out k hk
   exact ⟨g, c, cv, h1, h2, h3.keep (fun _ hf => hf) (fun _ _ => rfl) (fun _ _ _ _ => rfl), h4, h5, h6⟩)
 have HON0 : Hid (Only F w (w.drewN nq)) := hide ((Only.refl _ _).drewN nq)
 obtain ⟨W, hWe⟩ : ∃ W, W = w.drewN nq := ⟨_, rfl⟩
 rw [<- hWe] at HW HCW HON0 ⊢
 clear hWe HSH HCELL c3 c4 f4 H
 go_wp2
 go_loopw [19] (fun vi wr => ∃ k : Nat, vi = .int .i64 (k : Int) ∧ k <= K ∧ Hid (MapP wr L.kept (N + k) (fun n => (look (dirK d k) n).map L.ps)) ∧ Hid (W.grownBy wr (some L.kept))) (fun vi _ => K - (intOf vi).toNat)
 case atStart => exact ⟨0, rfl, Nat.zero_le _, hide (by rw [dirK_zero]; exact HW.out.rest.kept), hide ⟨rfl, rfl, rfl, Nat.le_refl _, fun _ _ _ => rfl⟩⟩
 case round =>
   obtain ⟨k, rfl, hkK, HMR, HGR⟩ := hrel
   have HX3 := hide (HW.out.head.keep (HGR.out.block p HW.out.head.lt (fun e => (HW.out.head.neMap HW.out.rest.kept) (Option.some.inj e))))
   by_cases hlt : k < K
   · obtain ⟨g, c, cv, hao, hc, hcw, hcell, hco, hdk, hgk⟩ := HCW.out k hlt
     have HDK : Hid (∀ n', look (dirK d (k + 1)) n' = chF (look (dirK d k)) c n') := hide (fun n' => by rw [hdk]; exact look_chD (HOK.out.dirs k).rise c (okCh_move hco) n')
     have hcw : ChV F wr L.ps c cv := hcw.keep (fun _ hf => hf) (fun _ _ => rfl) (fun j cs hf hb => HGR.out.block j (HW.out.lt j hf) (fun e => by
       rcases hb with hb | hb <;> exact (hb.neMap HW.out.rest.kept) (Option.some.inj e)))
     have hcell : wr.cell? ⟨g, k, none⟩ = some cv := (HGR.out.cell hcell (fun e => hgk (Option.some.inj e)))
     obtain ⟨d3, -⟩ := HX3.out.cell 3 rfl
     subst hao
     clear hdk hgk hc
     cases c with
     | give n f =>
       obtain ⟨b1, b2, hcv, h1, h2, -, -⟩ := hcw
       have HK := hide (giveC_any (f := f) hco.1 wr h1 h2 HMR.out (by omega))
       rw [hcv] at hcell
       clear hcv h1 h2
       go_wp2_with fail
       refine HK.out.mono ?_
       rintro e w1 ⟨rfl, hm1, hg1⟩
       have HM1 : Hid (MapP w1 L.kept (N + (k + 1)) (fun n => (look (dirK d (k + 1)) n).map L.ps)) := hide (hm1.fun fun n' _ => by rw [HDK.out])
       have HG1 := hide (HGR.out.trans2 hg1)
       clear hm1 hg1
       go_wp2
       go_roundw
       case rel => exact ⟨k + 1, by go_num, by omega, HM1, HG1⟩
       case measure => simp [intOf]; omega
     | move n m f =>
       obtain ⟨b1, b2, b3, hcv, h1, h2, h3, -, -, -⟩ := hcw
       have HK := hide (moveC_any (f := f) hco.1 hco.2.1 wr h1 h2 h3 HMR.out (by omega))
       rw [hcv] at hcell
       clear hcv h1 h2 h3
       go_wp2_with fail
       refine HK.out.mono ?_
       rintro e w1 ⟨rfl, hm1, hg1⟩
       have HM1 : Hid (MapP w1 L.kept (N + (k + 1)) (fun n => (look (dirK d (k + 1)) n).map L.ps)) := hide (hm1.fun fun n' _ => by rw [HDK.out])
       have HG1 := hide (HGR.out.trans2 hg1)
       clear hm1 hg1
       go_wp2
       go_roundw
       case rel => exact ⟨k + 1, by go_num, by omega, HM1, HG1⟩
       case measure => simp [intOf]; omega
     | take n =>
       obtain ⟨b1, hcv, h1, -⟩ := hcw
       have HK := hide (takeC_any hco wr h1 HMR.out )
       rw [hcv] at hcell
       clear hcv h1
       go_wp2_with fail
       refine HK.out.mono ?_
       rintro e w1 ⟨rfl, hm1, hg1⟩
       have HM1 : Hid (MapP w1 L.kept (N + (k + 1)) (fun n => (look (dirK d (k + 1)) n).map L.ps)) := hide (hm1.fun fun n' _ => by rw [HDK.out])
       have HG1 := hide (HGR.out.trans2 hg1)
       clear hm1 hg1
       go_wp2
       go_roundw
       case rel => exact ⟨k + 1, by go_num, by omega, HM1, HG1⟩
       case measure => simp [intOf]; omega
   · have HKK : Hid (k = K) := hide (by omega)
     obtain ⟨va, vn, vc, hvs⟩ := rowShape HW.out.rest.row
     obtain ⟨d4, e4⟩ := HX3.out.cell 4 rfl
     obtain ⟨d2, -⟩ := HX3.out.cell 2 rfl
     have d4' : wr.cell? ⟨p, 4, none⟩ = some L.wv := d4
     rw [hvs] at d4'
     have HX4 := hide (HX3.out.set 4 (.slice none 0 0))
     have HMN : Hid (MapP (wr.setCell ⟨p, 4, none⟩ (.slice none 0 0)) L.now N (fun n => (look (dirD d) n).map L.ps)) := hide (HW.out.rest.now.keep ((Below.heap_setCell _ _ _ _ (HW.out.head.neMap HW.out.rest.now).symm).trans (HGR.out.block _ HW.out.rest.now.lt (fun e => HW.out.rest.nk (Option.some.inj e)))))
     have HMK : Hid (MapP (wr.setCell ⟨p, 4, none⟩ (.slice none 0 0)) L.kept (N + k) (fun n => (look (dirK d k) n).map L.ps)) := hide (HMR.out.keep (Below.heap_setCell _ _ _ _ (HW.out.head.neMap HW.out.rest.kept).symm))
     obtain ⟨W2, hW2⟩ : ∃ W2, W2 = wr.setCell ⟨p, 4, none⟩ (.slice none 0 0) := ⟨_, rfl⟩
     have HON2 : Hid (Only F w W2) := hide (by
       rw [hW2]
       exact (HON0.out.trans (Only.ofGrown HGR.out (fun j e _ => by obtain rfl := Option.some.inj e; exact HW.out.rest.fk)) (fun _ _ hf => hf)).setCell 4 (fun _ => HW.out.fh) _)
     have HSM : Hid (∀ j, F j -> j ≠ p -> j ≠ L.kept -> W2.heap[j]? = W.heap[j]?) := hide (fun j hf h1 h2 => by
       rw [hW2, Below.heap_setCell _ _ _ _ h1]
       exact HGR.out.block j (HW.out.lt j hf) (fun e => h2 (Option.some.inj e)))
     have HSZ : Hid (W.heap.size <= W2.heap.size) := hide (by rw [hW2]; have := HGR.out.size; simpa using this)
     rw [<- hW2] at HX4 HMN HMK
     have HW2 := hide hW2
     clear hvs d4 hW2 HMR HCW
     go_upto_region 6 with fail
     rw [<- HW2.out]
     clear HW2 d4' e4 d2
     obtain ⟨d2, -⟩ := HX4.out.cell 2 rfl
     go_wp2_with (first | (with_reducible refine wpList_clear_P W2 rfl _ rfl L.now N _ rfl HMN.out ?_); intro W3 hm3 hg3)
     have HX5 := hide (HX4.out.keep (hg3.block p HX4.out.lt (fun e => (HW.out.head.neMap HW.out.rest.now) (Option.some.inj e))))
     have HMK3 := hide (HMK.out.keep (hg3.block _ HMK.out.lt (fun e => HW.out.rest.nk (Option.some.inj e).symm)))
     have HM3 := hide hm3
     have HG3 := hide hg3
     clear hm3 hg3 d2
     have d2 : W3.cell? ⟨p, 2, none⟩ = some (.map (some L.now)) := (HX5.out.cell 2 rfl).1
     have d3 : W3.cell? ⟨p, 3, none⟩ = some (.map (some L.kept)) := (HX5.out.cell 3 rfl).1
     have hkN : N + k <= 10000000 := by omega
     have HTI : Hid (∀ (X : World) (b n : Nat), MapP X b n (fun n => (look (dirK d k) n).map L.ps) -> MapP X b N (fun n => (look (dirK d k) n).map L.ps)) := hide (fun _ _ _ hm => (hm.tight (l := (dirK d k).map Prod.fst) (fun q _ hq => by
       cases e : look (dirK d k) q with
       | none => rw [e] at hq; cases hq
       | some f => exact List.mem_map.2 ⟨(q, f), (look_mem (HOK.out.dirs k).rise q f).1 e, rfl⟩)).mono (by
         have h1 := dirK_len d k
         have h2 := HBN.out.names
         simp only [List.length_map]
         omega))
     have HCP := hide (copy_any (w := W3.drew) (HM3.out.keep rfl) (HMK3.out.keep rfl) HW.out.rest.nk hkN)
     go_upto_region 7 with fail
     go_region_with
       (first
         | (go_at_call 80; refine HCP.out.mono ?_; rintro e W4 ⟨rfl, hm4, hg4⟩; have HM4 := hide hm4; have HG4 := hide hg4; clear hm4 hg4))
     all_goals
       go_wp2
       go_end0
       have hs4 : W3.heap.size <= W4.heap.size := HG4.out.size
       have hk4 : ∀ j, j < W3.heap.size -> j ≠ L.now -> W4.heap[j]? = W3.heap[j]? := fun j hj hn => HG4.out.block j hj (fun e => hn (Option.some.inj e))
       have hs3 := HG3.out.size
       have hsz := HSZ.out
       have hp3 : p < W3.heap.size := by have := HW.out.head.lt; omega
       have hkp3 : L.kept < W3.heap.size := by have := HW.out.rest.kept.lt; omega
       rw [<- HKK.out]
       refine ⟨rfl, HW.out.lost (l := dirK d k) (by omega) (fun j hf h1 h2 h3 => ?_) ?_ (HTI.out _ _ _ HM4.out) (HTI.out _ _ _ (HMK3.out.keep (hk4 _ hkp3 (Ne.symm HW.out.rest.nk)))), ?_⟩
       · have hj := HW.out.lt j hf
         rw [hk4 j (by omega) h2, HG3.out.block j (by omega) (fun e => h2 (Option.some.inj e))]
         exact HSM.out j hf h1 h3
       · exact HX5.out.keep (hk4 p hp3 (HW.out.head.neMap HW.out.rest.now))
       · have o3 : Only F W2 W3 := Only.ofGrown HG3.out (fun j e _ => by obtain rfl := Option.some.inj e; exact HW.out.rest.fn)
         have o4 : Only F W3 W4 := ⟨HG4.out.os, HG4.out.tape, HG4.out.output, hs4, fun j hj hn => hk4 j hj (fun e => hn (by rw [e]; exact HW.out.rest.fn))⟩
         exact (HON2.out.trans o3 (fun _ _ hf => hf)).trans o4 (fun _ _ hf => hf)

end Go.Proofs.YtpopbandpnaicaaGreatDoor

