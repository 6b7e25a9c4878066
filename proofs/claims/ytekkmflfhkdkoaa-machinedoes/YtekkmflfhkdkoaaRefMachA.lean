/- The calls of the document's machine. -/
import Derived.Test.YtekkmflfhkdkoaaRefMach
import Derived.Deep.DeepCutAuto
namespace Go.Proofs.Ytekkmflfhkdkoaa
open Go.RowKit Go.Maps

/-- One step more, at the end of the processes' numbers. -/
theorem RefM.appS {K : Nat → Prop} {w w' : World} {p : Nat} {cv pv v' : Value} {C P : List Int} (h : RefM K w p cv pv C P) (hK : ∀ k, K k → k < w.heap.size) {n : Int} (hn : I64 n)
    (ho : OwnI w' 0 v' (P ++ [n])) (hg : (w.alloc (.cells #[.int .i64 n] 3)).grownBy w' pv.ownBlock) (hl : v'.ownBlock = pv.ownBlock ∨ v'.ownBlock = some (w.heap.size + 1)) :
    RefM K (w'.setCell ⟨p, 1, none⟩ v') p cv v' C (P ++ [n]) ∧ Only (fun k => ¬ K k) w (w'.setCell ⟨p, 1, none⟩ v') ∧ w'.cell? ⟨p, 1, none⟩ = some pv ∧ w'.frozen? ⟨p, 1, none⟩ = false := by
  have hsz : (w.alloc (.cells #[.int .i64 n] 3)).heap.size = w.heap.size + 1 := by simp
  have hb : ∀ k, k < w.heap.size → pv.ownBlock ≠ some k → w'.heap[k]? = w.heap[k]? := fun k hk hne =>
    (hg.block k (by omega) (fun e => hne e.symm)).trans (Below.heap_alloc _ _ _ hk)
  have hpp := hb p h.head.lt fun e => (h.neS p e) rfl
  have hhead : Bk 39 w' p #[cv, pv] := h.head.keep hpp
  have hset : ∀ k, k ≠ p → (w'.setCell ⟨p, 1, none⟩ v').heap[k]? = w'.heap[k]? := fun k hk => Below.heap_setCell _ _ _ _ hk
  have hvp : ∀ g, v'.ownBlock = some g → g ≠ p := fun g hg' => by
    obtain ⟨cs, hbk⟩ := ownBk ho hg'
    exact hbk.ne hhead (by decide)
  refine ⟨⟨hhead.set 1 v', ownsRow_keep h.c fun g hg' => ?_, ownsRow_keep ho fun g hg' => hset g (hvp g hg'), fun g hg' hg2 => ?_, h.ic, fun x hx => ?_, h.kp, h.kc, fun g hg' hk => ?_⟩, ?_, hhead.cell 1 rfl⟩
  · rw [hset g (h.neC g hg')]
    exact hb g (World.ownsRow.lt h.c g hg').2 (h.ne g hg')
  · rcases hl with hl | hl
    · exact h.ne g hg' (hl.symm.trans hg2)
    · have := (World.ownsRow.lt h.c g hg').2
      rw [hl] at hg2
      have := Option.some.inj hg2
      omega
  · rcases List.mem_append.1 hx with hx | hx
    · exact h.ip x hx
    · rw [List.mem_singleton.1 hx]; exact hn
  · rcases hl with hl | hl
    · exact h.ks g (hl.symm.trans hg') hk
    · rw [hl] at hg'
      have := Option.some.inj hg'
      have := hK g hk
      omega
  · have h1 : Only (fun k => ¬ K k) w w' := ((Only.refl _ w).alloc (.cells #[.int .i64 n] 3)).trans (Only.ofGrown (F := fun k => ¬ K k) hg fun k hk _ => h.ks k hk) fun _ _ h => h
    exact h1.setCell 1 (fun _ => h.kp) _

/-- One cell more. -/
theorem RefM.appC {K : Nat → Prop} {w w' : World} {p : Nat} {cv pv v' : Value} {C P : List Int} (h : RefM K w p cv pv C P) (hK : ∀ k, K k → k < w.heap.size) {n : Int} (hn : I64 n)
    (ho : OwnI w' 0 v' (C ++ [n])) (hg : (w.alloc (.cells #[.int .i64 n] 3)).grownBy w' cv.ownBlock) (hl : v'.ownBlock = cv.ownBlock ∨ v'.ownBlock = some (w.heap.size + 1)) :
    RefM K (w'.setCell ⟨p, 0, none⟩ v') p v' pv (C ++ [n]) P ∧ Only (fun k => ¬ K k) w (w'.setCell ⟨p, 0, none⟩ v') ∧ w'.cell? ⟨p, 0, none⟩ = some cv ∧ w'.frozen? ⟨p, 0, none⟩ = false := by
  have hsz : (w.alloc (.cells #[.int .i64 n] 3)).heap.size = w.heap.size + 1 := by simp
  have hb : ∀ k, k < w.heap.size → cv.ownBlock ≠ some k → w'.heap[k]? = w.heap[k]? := fun k hk hne =>
    (hg.block k (by omega) (fun e => hne e.symm)).trans (Below.heap_alloc _ _ _ hk)
  have hpp := hb p h.head.lt fun e => (h.neC p e) rfl
  have hhead : Bk 39 w' p #[cv, pv] := h.head.keep hpp
  have hset : ∀ k, k ≠ p → (w'.setCell ⟨p, 0, none⟩ v').heap[k]? = w'.heap[k]? := fun k hk => Below.heap_setCell _ _ _ _ hk
  have hvp : ∀ g, v'.ownBlock = some g → g ≠ p := fun g hg' => by
    obtain ⟨cs, hbk⟩ := ownBk ho hg'
    exact hbk.ne hhead (by decide)
  refine ⟨⟨hhead.set 0 v', ownsRow_keep ho fun g hg' => hset g (hvp g hg'), ownsRow_keep h.s fun g hg' => ?_, fun g hg' hg2 => ?_, fun x hx => ?_, h.ip, h.kp, fun g hg' hk => ?_, h.ks⟩, ?_, hhead.cell 0 rfl⟩
  · rw [hset g (h.neS g hg')]
    exact hb g (World.ownsRow.lt h.s g hg').2 fun e => h.ne g e hg'
  · rcases hl with hl | hl
    · exact h.ne g (hl.symm.trans hg') hg2
    · have := (World.ownsRow.lt h.s g hg2).2
      rw [hl] at hg'
      have := Option.some.inj hg'
      omega
  · rcases List.mem_append.1 hx with hx | hx
    · exact h.ic x hx
    · rw [List.mem_singleton.1 hx]; exact hn
  · rcases hl with hl | hl
    · exact h.kc g (hl.symm.trans hg') hk
    · rw [hl] at hg'
      have := Option.some.inj hg'
      have := hK g hk
      omega
  · have h1 : Only (fun k => ¬ K k) w w' := ((Only.refl _ w).alloc (.cells #[.int .i64 n] 3)).trans (Only.ofGrown (F := fun k => ¬ K k) hg fun k hk _ => h.kc k hk) fun _ _ h => h
    exact h1.setCell 0 (fun _ => h.kp) _

theorem replicate_next (n : Nat) : List.replicate (n + 1) (0 : Int) = List.replicate n 0 ++ [0] := List.replicate_succ'

set_option maxRecDepth 100000 in
set_option maxHeartbeats 1000000 in
theorem refNewM_any (procs : Int) (w : World) (hp : procs ≤ 1000) :
    Calls Try.prog 10 #[.int .i64 procs] w fun e w' => ∃ p, e = .returned (ptr p) ∧ Rfm (fun k => k < w.heap.size) w' p [] (List.replicate procs.toNat 0) ∧ Below w.heap.size w w' := by
  obtain ⟨B, hB⟩ : ∃ B, B = w.heap.size := ⟨_, rfl⟩
  have h0 : RefM (fun k => k < B) (w.alloc (.cells #[.slice none 0 0, .slice none 0 0] 39)) w.heap.size (.slice none 0 0) (.slice none 0 0) [] (List.replicate 0 0) :=
    ⟨heap_alloc_new w _, OwnI.nil _ _, OwnI.nil _ _, (fun g hg => by cases hg), (fun x hx => by cases hx), (fun x hx => by cases hx), by omega, (fun g hg => by cases hg), (fun g hg => by cases hg)⟩
  have H0 := hide h0
  have HB0 : Hid (Below B w (w.alloc (.cells #[.slice none 0 0, .slice none 0 0] 39))) := hide ((Below.refl _ _).alloc (by omega) _)
  have HBW : Hid (B ≤ w.heap.size) := hide (by omega)
  rw [← hB]
  clear h0 hB
  go_enter Try.func10, Try.ntmps10
  go_wp2
  go_loopw [4] (fun vi wr => ∃ (i : Nat) (pv : Value), vi = .int .i64 (i : Int) ∧ (i : Int) ≤ max procs 0 ∧ Hid (RefM (fun k => k < B) wr w.heap.size (.slice none 0 0) pv [] (List.replicate i 0)) ∧ Hid (Below B w wr)) (fun vi _ => procs.toNat - (intOf vi).toNat)
  case atStart => exact ⟨0, _, rfl, by omega, H0, HB0⟩
  case round =>
    clear H0 HB0
    obtain ⟨i, pv, rfl, hi, H, HB⟩ := hrel
    by_cases hlt : (i : Int) < procs
    case neg =>
      have HE : Hid (i = procs.toNat) := hide (by omega)
      go_wp2
      go_ret
      exact ⟨_, rfl, ⟨_, _, by rw [← HE.out]; exact H.out⟩, HB.out⟩
    have hii : (i : Int) ≤ 1000 := by omega
    obtain ⟨ao, cap, rfl⟩ := H.out.s.shapeM
    have c1 := (H.out.head.cell 1 rfl).1
    have f1 := (H.out.head.cell 1 rfl).2
    obtain ⟨R, hR⟩ : ∃ R, R = List.replicate i (0 : Int) := ⟨_, rfl⟩
    have HRL : Hid (R.length = i) := by rw [hR]; exact List.length_replicate
    have HRN : Hid (List.replicate (i + 1) (0 : Int) = R ++ [0]) := by rw [hR]; exact replicate_next i
    rw [← hR] at H c1
    obtain ⟨n, hn⟩ : ∃ n, n = R.length := ⟨_, rfl⟩
    have HNE := hide hn
    rw [← hn] at H c1
    have c1' : wr.cell? ⟨w.heap.size, 1, none⟩ = some (.slice ao n cap) := c1
    have HI := hide hlt
    have HSZ : Hid (∀ k, k < B → k < wr.heap.size) := hide fun k hk => by have := HBW.out; have := HB.out.size; omega
    clear c1 hi hR hn
    go_wp2_with (at_builtin; refine wpList_append_intM _ rfl _ _ rfl _ _ rfl H.out.s 0 rfl (by have := HRL.out; omega) ?_)
    intro v2 w2 ho2 hg2 hl2
    obtain ⟨hr, hon, c2, f2⟩ := H.out.appS HSZ.out ⟨by decide, by decide⟩ ho2 hg2 hl2
    obtain ⟨a2, n2, p2, rfl⟩ : ∃ a n c, v2 = Value.slice a n c := by
      obtain ⟨a, c, h⟩ := ho2.shapeM
      exact ⟨a, _, c, h⟩
    have HR := hide hr
    have HON := hide (HB.out.trans (hon.below (by have := HBW.out; have := HB.out.size; omega) fun k hk => by omega))
    clear hr hon ho2 hg2 hl2 c1' f1
    go_wp2
    go_roundw
    case rel => exact ⟨i + 1, _, by go_num, by have := HI.out; omega, by rw [HRN.out]; exact HR, HON⟩
    case measure => have := HI.out; simp [intOf]; omega

end Go.Proofs.Ytekkmflfhkdkoaa
