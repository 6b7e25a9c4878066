/- Contracts of the landed files: the small calls. -/
import Derived.Test.YtfhgjnfichgdiaaFilesBase
namespace Go.Proofs.Ytfhgjnfichgdiaa
open Go.RowKit

set_option maxRecDepth 100000 in
theorem on_any {F : Nat → Prop} {p : Nat} {L : Lay} {d : Dk} {u : Int} {N : Nat} (w : World) (h : DiskL F w p L d u N) :
    Calls Try.prog 14 #[ptr p] w fun e w' => e = .returned (.bool (d.power != 0)) ∧ w' = w := by
  obtain ⟨⟨-, -, -, -, -, c5⟩, -⟩ := h.cells
  go_enter Try.func14, Try.ntmps14
  go_wp2
  go_ret
  exact ⟨rfl, rfl⟩

set_option maxRecDepth 100000 in
theorem used_any {F : Nat → Prop} {p : Nat} {L : Lay} {d : Dk} {u : Int} {N : Nat} (w : World) (h : DiskL F w p L d u N) :
    Calls Try.prog 12 #[ptr p] w fun e w' => e = .returned (.int .i64 u) ∧ w' = w := by
  obtain ⟨⟨-, c1, -, -, -, -⟩, -⟩ := h.cells
  go_enter Try.func12, Try.ntmps12
  go_wp2
  go_ret
  exact ⟨rfl, rfl⟩

set_option maxRecDepth 100000 in
theorem mayBe_any (n : Int) (w : World) :
    Calls Try.prog 33 #[.int .i64 n] w fun e w' => e = .returned (.bool (mayN n)) ∧ w' = w := by
  by_cases h1 : 0 ≤ n
  · by_cases h2 : n < 1048576
    · have e : mayN n = true := by simp [mayN, h1, h2]
      rw [e]
      go_enter Try.func33, Try.ntmps33
      go_wp2
      go_ret
      exact ⟨ret_bool (by simp), rfl⟩
    · have e : mayN n = false := by simp [mayN, h1, h2]
      rw [e]
      go_enter Try.func33, Try.ntmps33
      go_wp2
      go_ret
      exact ⟨ret_bool (by simp), rfl⟩
  · have e : mayN n = false := by simp [mayN, h1]
    rw [e]
    go_enter Try.func33, Try.ntmps33
    go_wp2
    go_ret
    exact ⟨rfl, rfl⟩

set_option maxRecDepth 100000 in
theorem share_any (a : Int) (n : Nat) (hn : n ≤ 1000000000000000) (w : World) :
    Calls Try.prog 55 #[.int .i64 a, .int .i64 (n : Int)] w fun e w' => e = .returned (.int .i64 (shareN a n : Int)) ∧ w' = w := by
  obtain ⟨M, hM⟩ : ∃ M : Int, M = (n : Int) := ⟨_, rfl⟩
  by_cases h : a < 0
  · have e : shareN a n = 0 := by simp [shareN, h]
    rw [e, ← hM]
    clear hM
    go_enter Try.func55, Try.ntmps55
    go_wp2
    go_ret
    exact ⟨rfl, rfl⟩
  · have h1 := Int.emod_nonneg a (show M + 1 ≠ 0 by omega)
    have e : ((shareN a n : Nat) : Int) = a % (M + 1) := by
      rw [hM] at h1 ⊢
      rw [shareN, if_neg h]
      omega
    rw [e, ← hM]
    have hb : 0 ≤ M ∧ M ≤ 1000000000000000 := by omega
    clear e h1 hM hn n
    go_enter Try.func55, Try.ntmps55
    go_wp2
    go_ret
    exact ⟨rfl, rfl⟩

set_option maxRecDepth 100000 in
theorem powerCut_any (q n : Int) (w : World) :
    Calls Try.prog 48 #[.int .i64 q, .int .i64 n] w fun e w' => e = .returned (.int .i64 (if q = 0 then 0 else max n 0)) ∧ w' = w := by
  by_cases h : q = 0
  · rw [if_pos h]
    subst h
    go_enter Try.func48, Try.ntmps48
    go_wp2
    go_ret
    exact ⟨rfl, rfl⟩
  · rw [if_neg h]
    have e : (q == 0) = false := by simpa using h
    clear h
    go_enter Try.func48, Try.ntmps48
    go_wp2
    go_ret
    exact ⟨rfl, rfl⟩

set_option maxRecDepth 100000 in
theorem done_any {F : Nat → Prop} {p : Nat} {L : Lay} {d : Dk} {u : Int} {N : Nat} (w : World) (h : DiskL F w p L d u N) (hp : I64 d.power) :
    Calls Try.prog 36 #[ptr p] w fun e w' => e = .returned (.int .i64 0) ∧ DiskL F w' p L { d with power := tickD d.power } u N ∧ Only F w w' := by
  have H := hide h
  obtain ⟨⟨-, -, -, -, -, c5⟩, -, -, -, f5⟩ := h.cells
  obtain ⟨hp1, hp2⟩ := hp
  obtain ⟨q, hq⟩ : ∃ q, q = d.power := ⟨_, rfl⟩
  rw [← hq] at c5 hp1 hp2 ⊢
  by_cases hg : q > 0
  · have HE : Hid (tickD q = q - 1) := if_pos hg
    have HQ := hide hq
    clear h hq
    go_enter Try.func36, Try.ntmps36
    go_wp2
    go_ret
    refine ⟨rfl, ?_, (Only.refl _ _).setCell 5 (fun _ => H.out.fh) _⟩
    refine H.out.setHead 5 _ ⟨rfl, rfl, rfl⟩ ?_
    rw [HE.out]
    rfl
  · have HE : Hid (tickD q = q) := if_neg hg
    have HQ := hide hq
    clear h hq
    go_enter Try.func36, Try.ntmps36
    go_wp2
    go_ret
    rw [HE.out, HQ.out]
    exact ⟨rfl, H.out, Only.refl _ _⟩

set_option maxRecDepth 100000 in
theorem cutF_any {F : Nat → Prop} {p : Nat} {d : Dk} {N T : Nat} (n : Int) (hn : I64 n) (w : World) (h : Dsk F w p d N T) :
    Calls Try.prog 28 #[ptr p, .int .i64 n] w fun e w' => e = .returned (.tuple #[]) ∧ Dsk F w' p (cutD d n) N T ∧ Only F w w' := by
  obtain ⟨L, h, hok, hbn, hrm, hpw⟩ := h
  have H := hide h
  have HC := hide (And.intro hok (And.intro hbn (And.intro hrm hpw)))
  have HN := hide hn
  obtain ⟨⟨-, -, -, -, -, c5⟩, -, -, -, f5⟩ := h.cells
  obtain ⟨q, hq⟩ : ∃ q, q = d.power := ⟨_, rfl⟩
  have HQ := hide hq
  rw [← hq] at c5
  clear h hok hbn hrm hpw hq hn
  have HP := hide (powerCut_any q n w)
  obtain ⟨r, hr⟩ : ∃ r, r = (if q = 0 then (0 : Int) else max n 0) := ⟨_, rfl⟩
  rw [← hr] at HP
  have HR := hide hr
  clear hr
  go_enter Try.func28, Try.ntmps28
  go_wp2_with fail
  refine HP.out.mono ?_
  rintro e w' ⟨rfl, rfl⟩
  go_wp2
  go_end0
  refine ⟨rfl, ⟨L, ?_, OkD.cut HC.out.1 n, ⟨HC.out.2.1.files, HC.out.2.1.names, HC.out.2.1.bytes⟩, HC.out.2.2.1, ?_⟩, (Only.refl _ _).setCell 5 (fun _ => H.out.fh) _⟩
  · refine H.out.setHead 5 _ ⟨rfl, rfl, rfl⟩ ?_
    rw [HR.out, HQ.out]
    rfl
  · obtain ⟨h1, h2⟩ := HN.out
    unfold cutD I64
    dsimp only
    split <;> omega

theorem newDisk (w : World) (room : Int) (hr : I64 room) : Dsk (fun k => w.heap.size ≤ k ∧ k < (((w.alloc (.map #[] 0)).alloc (.map #[] 0)).alloc (.cells #[.int .i64 room, .int .i64 0, .map (some w.heap.size), .map (some (w.heap.size + 1)), .slice none 0 0, .int .i64 (-1)] 55)).heap.size)
    (((w.alloc (.map #[] 0)).alloc (.map #[] 0)).alloc (.cells #[.int .i64 room, .int .i64 0, .map (some w.heap.size), .map (some (w.heap.size + 1)), .slice none 0 0, .int .i64 (-1)] 55)) (w.heap.size + 1 + 1) (newD room) 0 0 := by
  have m1 := MapP.made w
  obtain ⟨W1, h1⟩ : ∃ W1, W1 = w.alloc (.map #[] 0) := ⟨_, rfl⟩
  have s1 : W1.heap.size = w.heap.size + 1 := by rw [h1]; simp
  rw [← h1] at m1 ⊢
  have m2 := MapP.made W1
  have k1 := m1.keep (w' := W1.alloc (.map #[] 0)) (Below.heap_alloc _ _ _ (by omega))
  obtain ⟨W2, h2⟩ : ∃ W2, W2 = W1.alloc (.map #[] 0) := ⟨_, rfl⟩
  have s2 : W2.heap.size = w.heap.size + 1 + 1 := by rw [h2]; simp [s1]
  rw [← h2] at m2 k1 ⊢
  rw [s1] at m2
  obtain ⟨A, hA⟩ : ∃ A : Array Value, A = #[.int .i64 room, .int .i64 0, .map (some w.heap.size), .map (some (w.heap.size + 1)), .slice none 0 0, .int .i64 (-1)] := ⟨_, rfl⟩
  rw [← hA]
  have k2 := m2.keep (w' := W2.alloc (.cells A 55)) (Below.heap_alloc _ _ _ (by omega))
  have k3 := k1.keep (w' := W2.alloc (.cells A 55)) (Below.heap_alloc _ _ _ (by omega))
  have hb : Bk 55 (W2.alloc (.cells A 55)) W2.heap.size A := heap_alloc_new W2 _
  rw [s2] at hb
  have s3 : (W2.alloc (.cells A 55)).heap.size = w.heap.size + 1 + 1 + 1 := by simp [s2]
  obtain ⟨W3, h3⟩ : ∃ W3, W3 = W2.alloc (.cells A 55) := ⟨_, rfl⟩
  rw [← h3] at k2 k3 hb s3 ⊢
  refine ⟨⟨w.heap.size, w.heap.size + 1, .slice none 0 0, [], fun _ => 0, fun _ => .slice none 0 0⟩, ⟨by rw [hA] at hb; exact hb, ?_, ⟨by omega, by omega⟩, fun k hk => hk.2⟩, okD_new room, ⟨Nat.le_refl _, Nat.le_refl _, (fun x hx => by cases hx)⟩, hr, ⟨by show (-9223372036854775808 : Int) ≤ -1; omega, by show (-1 : Int) ≤ 9223372036854775807; omega⟩⟩
  refine ⟨k3, k2, World.ownsRow_nil _ _ _ _, rfl, (fun i c v h => by simp [newD] at h), (fun i hi => absurd hi (Nat.not_lt_zero _)), (fun i j hi => absurd hi (Nat.not_lt_zero _)), (fun i j hi => absurd hi (Nat.not_lt_zero _)), (by show w.heap.size ≠ w.heap.size + 1; omega), ⟨by show w.heap.size ≤ w.heap.size; omega, by show w.heap.size < _; omega⟩, ⟨by show w.heap.size ≤ w.heap.size + 1; omega, by show w.heap.size + 1 < _; omega⟩, (fun g hg => by cases hg), (fun i hi => absurd hi (Nat.not_lt_zero _)), (fun i hi => absurd hi (Nat.not_lt_zero _))⟩

set_option maxRecDepth 100000 in
theorem new_any (room : Int) (hr : I64 room) (w : World) :
    Calls Try.prog 6 #[.int .i64 room] w fun e w' => ∃ p, e = .returned (ptr p) ∧ Dsk (fun k => w.heap.size ≤ k ∧ k < w'.heap.size) w' p (newD room) 0 0 ∧ Below w.heap.size w w' := by
  have HR := hide hr
  clear hr
  have hmm := @run_makeMap Try.prog
  go_enter Try.func6, Try.ntmps6
  go_wp2
  go_ret
  exact ⟨_, rfl, newDisk w room HR.out, (((Below.refl _ w).alloc (Nat.le_refl _) _).alloc (by simp) _).alloc (by simp; omega) _⟩

set_option maxRecDepth 100000 in
theorem find_any {F : Nat → Prop} {p : Nat} {L : Lay} {d : Dk} {u : Int} {N : Nat} (n : Int) (hn : I64 n) (w : World) (h : DiskL F w p L d u N) :
    Calls Try.prog 40 #[ptr p, .int .i64 n] w fun e w' => e = .returned (.tuple #[ptrO (if d.power = 0 then none else (look (dirD d) n).map L.ps), .int .i64 (if d.power = 0 then 11 else if (look (dirD d) n).isSome then 0 else 8)]) ∧ w' = w := by
  have HO := hide (on_any w h)
  obtain ⟨⟨-, -, c2, -, -, -⟩, -⟩ := h.cells
  have hl := h.rest.now.look hn
  obtain ⟨q, hq⟩ : ∃ q, q = d.power := ⟨_, rfl⟩
  obtain ⟨o, ho⟩ : ∃ o, o = look (dirD d) n := ⟨_, rfl⟩
  rw [← ho] at hl
  rw [← hq] at HO
  rw [← hq, ← ho]
  clear h hq ho hn
  by_cases h0 : q = 0
  · subst h0
    go_enter Try.func40, Try.ntmps40
    go_wp2_with fail
    refine HO.out.mono ?_
    rintro e w' ⟨rfl, rfl⟩
    go_wp2
    go_ret2
    exact ⟨rfl, rfl⟩
  · rw [if_neg h0, if_neg h0]
    have e0 : (q != 0) = true := by simpa using h0
    rw [e0] at HO
    clear h0 e0
    cases o with
    | none =>
      have hl' : (Instr.lookup 51 (.map (some L.now)) (.int .i64 n) true).run Try.prog w = .ok (.tuple #[.pointer none, .bool false]) w := hl
      clear hl
      go_enter Try.func40, Try.ntmps40
      go_wp2_with fail
      refine HO.out.mono ?_
      rintro e w' ⟨rfl, rfl⟩
      go_wp2
      go_ret2
      exact ⟨rfl, rfl⟩
    | some f =>
      have hl' : (Instr.lookup 51 (.map (some L.now)) (.int .i64 n) true).run Try.prog w = .ok (.tuple #[.pointer (some ⟨L.ps f, 0, none⟩), .bool true]) w := hl
      clear hl
      obtain ⟨x, hx⟩ : ∃ x, x = L.ps f := ⟨_, rfl⟩
      have e1 : ptrO (Option.map L.ps (some f)) = .pointer (some ⟨x, 0, none⟩) := by rw [hx]; rfl
      rw [← hx] at hl'
      rw [e1]
      clear hx e1
      go_enter Try.func40, Try.ntmps40
      go_wp2_with fail
      refine HO.out.mono ?_
      rintro e w' ⟨rfl, rfl⟩
      go_wp2
      go_ret2
      exact ⟨rfl, rfl⟩

end Go.Proofs.Ytfhgjnfichgdiaa
