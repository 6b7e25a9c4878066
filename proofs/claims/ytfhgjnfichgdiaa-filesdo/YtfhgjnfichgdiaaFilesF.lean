/- Contracts of the landed files: Read, Sync, free, Rename, Remove, SyncDir. -/
import Derived.Test.YtfhgjnfichgdiaaFilesE
import Derived.Test.YtfhgjnfichgdiaaNumApp
import Derived.Lib.LazyBuf
namespace Go.Proofs.Ytfhgjnfichgdiaa
open Go.RowKit

theorem ownMade0 (w : World) (B : Nat) (hB : B ≤ w.heap.size) : Own (w.alloc (.cells #[] 5)) B (.slice (some ⟨w.heap.size, 0, none⟩) 0 0) [] :=
  ⟨rfl, .inr ⟨w.heap.size, 0, #[], rfl, hB, heap_alloc_new w _, Nat.le_refl _, Nat.zero_le _, rfl, rfl⟩⟩

set_option maxRecDepth 100000 in
theorem cloneF_any (v : Value) (l : List UInt8) (w : World) (hr : Rd w v l) (hlim : l.length ≤ 70368744177664) :
    Calls Try.prog 41 #[v] w fun e w' => ∃ v', e = .returned v' ∧ Own w' w.heap.size v' l ∧ Below w.heap.size w w' := by
  have HR := hide hr
  obtain ⟨ao, cap, rfl, hlc, hcm, hn0, hao⟩ := hr
  cases ao with
  | none =>
    have hc := hn0 rfl
    have hl : l = [] := List.eq_nil_of_length_eq_zero (by omega)
    subst hl
    subst hc
    clear hao hn0
    have hnil : ∀ w, (binOp .eql 30 (.slice none 0 0) (.slice none 0 0)).run Try.prog w = .ok (.bool true) w := fun w => run_eql_slice_nil w _ _ none 0 0 Try.underlying30
    go_enter Try.func41, Try.ntmps41
    go_wp2
    go_ret
    exact ⟨_, rfl, Own.nil _ _, Below.refl _ _⟩
  | some ad =>
    clear hao hn0 hlc hcm
    have hnil : ∀ w, (binOp .eql 30 (.slice (some ad) l.length cap) (.slice none 0 0)).run Try.prog w = .ok (.bool false) w := fun w => run_eql_slice_nil w _ _ (some ad) _ _ Try.underlying30
    have HO := hide (ownMade0 w w.heap.size (Nat.le_refl _))
    have HB := hide ((Below.refl w.heap.size w).alloc (Nat.le_refl _) (.cells #[] 5))
    have HR1 := hide (HR.out.below HB.out (Nat.le_refl _))
    have HS : Hid (w.heap.size ≤ (w.alloc (.cells #[] 5)).heap.size) := HB.out.size
    go_enter Try.func41, Try.ntmps41
    go_wp2_with (at_builtin; refine wpList_append_rd _ rfl _ _ rfl w.heap.size _ [] rfl HO.out _ l rfl HR1.out (by simp; omega) HS.out ?_)
    intro v4 w4 ho4 hb4
    have HO4 := hide ho4
    have HB4 := hide (HB.out.trans hb4)
    clear ho4 hb4
    go_wp2
    go_ret
    exact ⟨v4, rfl, HO4.out, HB4.out⟩

set_option maxRecDepth 100000 in
theorem readF_any {F : Nat → Prop} {p : Nat} {d : Dk} {N T : Nat} (n : Int) (hn : I64 n) (w : World) (h : Dsk F w p d N T) (hT : T ≤ 1000000000) :
    Calls Try.prog 18 #[ptr p, .int .i64 n] w fun e w' => ∃ v, e = .returned (.tuple #[v, .int .i64 (readD d n).2]) ∧ Own w' w.heap.size v (readD d n).1 ∧ Below w.heap.size w w' := by
  obtain ⟨L, h, hok, hbn, -, -⟩ := h
  have HF := hide (find_any n hn w h)
  have H := hide h
  have HOK := hide hok
  have HBN := hide hbn
  clear h hok hbn
  unfold readD
  by_cases h0 : d.power = 0
  · rw [if_pos h0]
    rw [if_pos h0, if_pos h0] at HF
    clear h0
    go_enter Try.func18, Try.ntmps18
    go_wp2_with fail
    refine HF.out.mono ?_
    rintro e w' ⟨rfl, rfl⟩
    go_wp2
    go_ret2
    exact ⟨_, rfl, Own.nil _ _, Below.refl _ _⟩
  rw [if_neg h0]
  rw [if_neg h0, if_neg h0] at HF
  clear h0
  cases ho : look (dirD d) n with
  | none =>
    rw [ho] at HF
    dsimp only [Option.map_none, Option.isSome_none, Bool.false_eq_true, if_false, ptrO] at HF ⊢
    clear ho
    go_enter Try.func18, Try.ntmps18
    go_wp2_with fail
    refine HF.out.mono ?_
    rintro e w' ⟨rfl, rfl⟩
    go_wp2
    go_ret2
    exact ⟨_, rfl, Own.nil _ _, Below.refl _ _⟩
  | some f =>
    rw [ho] at HF
    dsimp only [Option.map_some, Option.isSome_some, if_true, ptrO] at HF ⊢
    have hf : f < d.files.length := (HOK.out.dir.mayOf ho).2
    obtain ⟨c0, -⟩ := (H.out.rest.file f hf).box.cell 0 rfl
    have HRD := hide (H.out.rest.file f hf).own.rd
    have HC := hide (cloneF_any _ _ w HRD.out (by have := HBN.out.bytes _ (mem_fl hf); omega))
    obtain ⟨va, vc, hvs⟩ := (H.out.rest.file f hf).own.shape
    rw [hvs] at c0 HC
    clear ho hf hvs hT hn
    go_enter Try.func18, Try.ntmps18
    go_wp2_with fail
    refine HF.out.mono ?_
    rintro e w' ⟨rfl, rfl⟩
    go_wp2_with fail
    refine HC.out.mono ?_
    rintro e w1 ⟨v1, rfl, ho1, hb1⟩
    go_wp2
    go_ret2
    exact ⟨_, rfl, ho1, hb1⟩

set_option maxRecDepth 100000 in
theorem sync_any {F : Nat → Prop} {p : Nat} {d : Dk} {N T : Nat} (n : Int) (hn : I64 n) (w : World) (h : Dsk F w p d N T) :
    Calls Try.prog 21 #[ptr p, .int .i64 n] w fun e w' => DidF F w p (syncD d n).1 (syncD d n).2 (N + 2) T e w' := by
  have HD := hide h
  obtain ⟨L, h, hok, hbn, hrm, hpw⟩ := h
  have HF := hide (find_any n hn w h)
  have H := hide h
  have HOK := hide hok
  have HBN := hide hbn
  have HI := hide (And.intro hrm hpw)
  clear h hok hbn hrm hpw
  unfold syncD
  by_cases h0 : d.power = 0
  · rw [if_pos h0]
    rw [if_pos h0, if_pos h0] at HF
    clear h0
    go_enter Try.func21, Try.ntmps21
    go_wp2_with fail
    refine HF.out.mono ?_
    rintro e w' ⟨rfl, rfl⟩
    go_wp2
    go_ret
    exact DidF.same HD.out (by omega) (Nat.le_refl _)
  rw [if_neg h0]
  rw [if_neg h0, if_neg h0] at HF
  clear h0
  cases ho : look (dirD d) n with
  | none =>
    rw [ho] at HF
    dsimp only [Option.map_none, Option.isSome_none, Bool.false_eq_true, if_false, ptrO] at HF ⊢
    clear ho
    go_enter Try.func21, Try.ntmps21
    go_wp2_with fail
    refine HF.out.mono ?_
    rintro e w' ⟨rfl, rfl⟩
    go_wp2
    go_ret
    exact DidF.same HD.out (by omega) (Nat.le_refl _)
  | some f =>
    rw [ho] at HF
    dsimp only [Option.map_some, Option.isSome_some, if_true, ptrO] at HF ⊢
    have HLK := hide ho
    have hf : f < d.files.length := (HOK.out.dir.mayOf ho).2
    have HX := hide (H.out.rest.file f hf)
    obtain ⟨c0, -⟩ := (H.out.rest.file f hf).box.cell 0 rfl
    obtain ⟨c1, f1⟩ := (H.out.rest.file f hf).box.cell 1 rfl
    have HD1 : Hid (DiskL F (w.setCell ⟨L.ps f, 1, none⟩ (.int .i64 ((fl d.files f).b.length : Int))) p { L with vs := fun i => if i = f then L.vs f else L.vs i } { d with files := keepF d.files f } (usedD d) N) := hide (H.out.setFile (F' := F) (v' := L.vs f) (x' := ⟨(fl d.files f).b, (fl d.files f).b.length⟩) hf (fun k _ h1 _ => Below.heap_setCell _ _ _ _ h1) ⟨HX.out.box.set 1 _, ownsRow_keep HX.out.own fun g hg => Below.heap_setCell _ _ _ _ (by
      obtain ⟨cs', hb'⟩ := ownBk HX.out.own hg
      exact hb'.ne HX.out.box (by decide))⟩ (.inl rfl) (fun _ hk => hk) (fun g hg => H.out.rest.fv f hf g hg) (fun k hk => by simpa using H.out.lt k hk))
    have HON1 : Hid (Only F w (w.setCell ⟨L.ps f, 1, none⟩ (.int .i64 ((fl d.files f).b.length : Int)))) := hide ((Only.refl _ _).setCell 1 (fun _ => H.out.rest.fp f hf) _)
    obtain ⟨va, vc, hvs⟩ := HX.out.own.shape
    rw [hvs] at c0
    obtain ⟨W1, hW1⟩ : ∃ W1, W1 = w.setCell ⟨L.ps f, 1, none⟩ (.int .i64 ((fl d.files f).b.length : Int)) := ⟨_, rfl⟩
    rw [← hW1] at HD1 HON1
    have HW1 := hide hW1
    clear ho hf hvs hn hW1
    go_enter Try.func21, Try.ntmps21
    go_wp2_with fail
    refine HF.out.mono ?_
    rintro e w' ⟨rfl, rfl⟩
    go_upto_region 5 with fail
    rw [← HW1.out]
    clear HW1 c0 c1 f1
    go_wp2_with fail
    refine (done_any W1 HD1.out HI.out.2).mono ?_
    rintro e W5 ⟨rfl, hd5, hon5⟩
    go_wp2
    go_ret
    refine ⟨rfl, F, ⟨{ L with vs := fun i => if i = f then L.vs f else L.vs i }, ?_, ?_, ⟨?_, ?_, ?_⟩, HI.out.1, tick_i64 HI.out.2⟩, HON1.out.trans hon5 (fun _ _ hf => hf), fun _ hk => .inl hk⟩
    · rw [usedD_keep HOK.out HLK.out]
      exact hd5.mono (by omega)
    · exact HOK.out.bytes (by simp [keepF]) (keep_set HOK.out.keep _ (Nat.le_refl _))
    · have := HBN.out.files
      show (keepF d.files f).length ≤ _
      simp [keepF]
      omega
    · have := HBN.out.names
      show d.kept.length + d.waits.length ≤ _
      omega
    · intro x hx
      rcases List.mem_or_eq_of_mem_set hx with hx | rfl
      · exact HBN.out.bytes x hx
      · have := HBN.out.bytes _ (mem_fl (HOK.out.dir.mayOf HLK.out).2)
        exact this

set_option maxRecDepth 100000 in
theorem free_any {F : Nat → Prop} {p : Nat} {L : Lay} {d : Dk} {U : Int} {N T : Nat} (n : Int) (hn : I64 n) (w : World) (h : DiskL F w p L d U N) (hok : OkD d) (hbn : Bnd d N T) (hT : T ≤ 1000000000) (hU : 0 ≤ U ∧ U ≤ 1000000000000000) :
    Calls Try.prog 45 #[ptr p, .int .i64 n] w fun e w' => e = .returned (.tuple #[]) ∧ DiskL F w' p L d (U - (lenO d.files (look (dirD d) n) : Int)) N ∧ Only F w w' := by
  have H := hide h
  obtain ⟨⟨-, c1, c2, -, -, -⟩, f1, -⟩ := h.cells
  have hl := h.rest.now.look hn
  cases ho : look (dirD d) n with
  | none =>
    rw [ho] at hl
    have hl' : (Instr.lookup 51 (.map (some L.now)) (.int .i64 n) true).run Try.prog w = .ok (.tuple #[.pointer none, .bool false]) w := hl
    clear hl ho h hok hbn
    go_enter Try.func45, Try.ntmps45
    go_wp2
    go_end0
    exact ⟨rfl, by simpa [lenO] using H.out, Only.refl _ _⟩
  | some f =>
    rw [ho] at hl
    have hl' : (Instr.lookup 51 (.map (some L.now)) (.int .i64 n) true).run Try.prog w = .ok (.tuple #[.pointer (some ⟨L.ps f, 0, none⟩), .bool true]) w := hl
    have hf : f < d.files.length := (hok.dir.mayOf ho).2
    obtain ⟨g0, -⟩ := (h.rest.file f hf).box.cell 0 rfl
    obtain ⟨va, vc, hvs⟩ := (h.rest.file f hf).own.shape
    rw [hvs] at g0
    have hlen := hbn.bytes _ (mem_fl hf)
    obtain ⟨m, hm⟩ : ∃ m, m = (fl d.files f).b.length := ⟨_, rfl⟩
    have e : lenO d.files (some f) = m := hm.symm
    rw [e]
    rw [← hm] at g0 hlen
    clear hl ho h hok hbn hf hvs hm e hn
    go_enter Try.func45, Try.ntmps45
    go_upto_region 2 with fail
    go_region
    go_end0
    exact ⟨rfl, (H.out.setHead 1 (.int .i64 (U - (m : Int))) ⟨rfl, rfl, rfl⟩ rfl).keep (fun _ _ => rfl) (Nat.le_refl _), ((Only.refl _ _).setCell 1 (fun _ => H.out.fh) _).drewN 1⟩

theorem Bnd.waited {d : Dk} {N T : Nat} (h : Bnd d N T) (c : Ch) (q : Int) : Bnd { d with waits := d.waits ++ [c], power := q } (N + 1) T :=
  ⟨by have := h.files; show d.files.length ≤ _; omega, by have := h.names; show d.kept.length + (d.waits ++ [c]).length ≤ _; simp; omega, h.bytes⟩

theorem DiskL.drewN {F : Nat → Prop} {w : World} {p : Nat} {L : Lay} {d : Dk} {u : Int} {N : Nat} (h : DiskL F w p L d u N) (q : Nat) : DiskL F (w.drewN q) p L d u N := h.keep (fun _ _ => rfl) (Nat.le_refl _)

set_option maxRecDepth 100000 in
set_option maxHeartbeats 1000000 in
theorem remove_any {F : Nat → Prop} {p : Nat} {d : Dk} {N T : Nat} (n : Int) (hn : I64 n) (w : World) (h : Dsk F w p d N T) (hN : N ≤ 1000000) (hT : T ≤ 1000000000) :
    Calls Try.prog 25 #[ptr p, .int .i64 n] w fun e w' => DidF F w p (removeD d n).1 (removeD d n).2 (N + 2) T e w' := by
  have HD := hide h
  obtain ⟨L, h, hok, hbn, hrm, hpw⟩ := h
  have HF := hide (find_any n hn w h)
  have H := hide h
  have HOK := hide hok
  have HBN := hide hbn
  have HI := hide (And.intro hrm hpw)
  have hub := used_bd hok hbn hN hT
  have HFR := hide (free_any n hn w h hok hbn hT (by omega))
  clear h hok hbn hrm hpw hub
  unfold removeD
  by_cases h0 : d.power = 0
  · rw [if_pos h0]
    rw [if_pos h0, if_pos h0] at HF
    clear h0
    go_enter Try.func25, Try.ntmps25
    go_wp2_with fail
    refine HF.out.mono ?_
    rintro e w' ⟨rfl, rfl⟩
    go_wp2
    go_ret
    exact DidF.same HD.out (by omega) (Nat.le_refl _)
  rw [if_neg h0]
  rw [if_neg h0, if_neg h0] at HF
  clear h0
  cases ho : look (dirD d) n with
  | none =>
    rw [ho] at HF
    dsimp only [Option.map_none, Option.isSome_none, Bool.false_eq_true, if_false, ptrO] at HF ⊢
    clear ho
    go_enter Try.func25, Try.ntmps25
    go_wp2_with fail
    refine HF.out.mono ?_
    rintro e w' ⟨rfl, rfl⟩
    go_wp2
    go_ret
    exact DidF.same HD.out (by omega) (Nat.le_refl _)
  | some f =>
    rw [ho] at HF HFR
    dsimp only [Option.map_some, Option.isSome_some, if_true, ptrO] at HF ⊢
    have HLK := hide ho
    have HMY := hide (HOK.out.dir.mayOf ho)
    clear ho hn
    go_enter Try.func25, Try.ntmps25
    go_wp2_with fail
    refine HF.out.mono ?_
    rintro e w' ⟨rfl, rfl⟩
    go_wp2_with fail
    refine HFR.out.mono ?_
    rintro e W1 ⟨rfl, hd1, hon1⟩
    have HD1 := hide hd1
    have HON1 := hide hon1
    clear hd1 hon1
    go_wp2_with fail
    refine (take_any n W1).mono ?_
    rintro e W2 ⟨rfl, hW2⟩
    have hb2 : Below W1.heap.size W1 W2 := by rw [hW2]; exact (Below.refl _ _).alloc (Nat.le_refl _) _
    have hs2 : W2.heap.size = W1.heap.size + 1 := by rw [hW2]; simp
    have hc2 : Bk 3 W2 W1.heap.size #[.int .i64 n] := by rw [hW2]; exact heap_alloc_new W1 _
    have HD2 := hide (HD1.out.more hb2)
    have HCV : Hid (ChV (Gr F W1 W2) W2 L.ps (.take n) (.func (.func 58) #[] #[ptr W1.heap.size])) := hide ⟨_, rfl, hc2, .inr ⟨Nat.le_refl _, by omega⟩⟩
    have HON2 : Hid (Only F w' W2) := hide (HON1.out.trans (G := fun _ => False) (Only.ofBelow hb2) (fun _ _ hf => hf.elim))
    have HAP := hide (apply_any W2 HD2.out HCV.out HOK.out HMY.out.1 hN (by have := HBN.out.names; omega))
    clear hb2 hs2 hc2 hW2
    go_wp2_with fail
    refine HAP.out.mono ?_
    rintro e W3 ⟨rfl, L3, hd3, -, -, hon3⟩
    have HON3 : Hid (Only F w' W3) := hide (HON2.out.trans hon3 (fun k hk hf => by
      rcases hf with hf | hf
      · exact hf
      · have := HON1.out.size; omega))
    have HD3 := hide hd3
    clear hd3 hon3 HAP
    go_wp2_with fail
    refine (done_any W3 HD3.out HI.out.2).mono ?_
    rintro e W4 ⟨rfl, hd4, hon4⟩
    go_wp2
    go_ret
    refine ⟨rfl, Gr (Gr F W1 W2) W2 W3, ⟨L3, ?_, ?_, (HBN.out.waited (.take n) _).mono (by omega) (Nat.le_refl _), HI.out.1, tick_i64 HI.out.2⟩, HON3.out.trans hon4 (fun k hk hf => ?_), fun k hk => ?_⟩
    · have hu := usedD_take HOK.out HLK.out (tickD d.power)
      have e1 : (usedD { d with waits := d.waits ++ [.take n], power := tickD d.power } : Int) = (usedD d : Int) - (lenO d.files (some f) : Int) := by
        show _ = (usedD d : Int) - ((fl d.files f).b.length : Int)
        omega
      rw [e1]
      exact hd4.mono (by omega)
    · exact HOK.out.taken HLK.out _
    · rcases hf with (hf | hf) | hf
      · exact hf
      · have := HON1.out.size; omega
      · have := HON2.out.size; omega
    · rcases hk with (hk | hk) | hk
      · exact .inl hk
      · have := HON1.out.size; exact .inr (by omega)
      · have := HON2.out.size; exact .inr (by omega)

theorem threeF_new (w : World) (a b c : Obj) : (((w.alloc a).alloc b).alloc c).heap[w.heap.size]? = some a ∧ (((w.alloc a).alloc b).alloc c).heap[w.heap.size + 1]? = some b ∧ (((w.alloc a).alloc b).alloc c).heap[w.heap.size + 1 + 1]? = some c := by
  have e1 : (w.alloc a).heap.size = w.heap.size + 1 := by simp
  have e2 : ((w.alloc a).alloc b).heap.size = w.heap.size + 1 + 1 := by simp
  refine ⟨?_, ?_, ?_⟩
  · rw [Below.heap_alloc _ _ _ (by omega), Below.heap_alloc _ _ _ (by omega)]
    exact heap_alloc_new w a
  · rw [Below.heap_alloc _ _ _ (by omega), ← e1]
    exact heap_alloc_new _ b
  · rw [← e2]
    exact heap_alloc_new _ c

set_option maxRecDepth 100000 in
set_option maxHeartbeats 1000000 in
theorem rename_any {F : Nat → Prop} {p : Nat} {d : Dk} {N T : Nat} (n m : Int) (hn : I64 n) (hm : I64 m) (w : World) (h : Dsk F w p d N T) (hN : N ≤ 1000000) (hT : T ≤ 1000000000) :
    Calls Try.prog 23 #[ptr p, .int .i64 n, .int .i64 m] w fun e w' => DidF F w p (renameD d n m).1 (renameD d n m).2 (N + 2) T e w' := by
  have HD := hide h
  obtain ⟨L, h, hok, hbn, hrm, hpw⟩ := h
  have HF := hide (find_any n hn w h)
  have H := hide h
  have HOK := hide hok
  have HBN := hide hbn
  have HI := hide (And.intro hrm hpw)
  have hub := used_bd hok hbn hN hT
  have HFR := hide (free_any m hm w h hok hbn hT (by omega))
  clear h hok hbn hrm hpw hub
  unfold renameD
  by_cases h0 : d.power = 0
  · rw [if_pos h0]
    rw [if_pos h0, if_pos h0] at HF
    clear h0
    go_enter Try.func23, Try.ntmps23
    go_wp2_with fail
    refine HF.out.mono ?_
    rintro e w' ⟨rfl, rfl⟩
    go_wp2
    go_ret
    exact DidF.same HD.out (by omega) (Nat.le_refl _)
  rw [if_neg h0]
  rw [if_neg h0, if_neg h0] at HF
  clear h0
  cases ho : look (dirD d) n with
  | none =>
    rw [ho] at HF
    dsimp only [Option.map_none, Option.isSome_none, Bool.false_eq_true, if_false, ptrO] at HF ⊢
    clear ho
    go_enter Try.func23, Try.ntmps23
    go_wp2_with fail
    refine HF.out.mono ?_
    rintro e w' ⟨rfl, rfl⟩
    go_wp2
    go_ret
    exact DidF.same HD.out (by omega) (Nat.le_refl _)
  | some f =>
    rw [ho] at HF
    dsimp only [Option.map_some, Option.isSome_some, if_true, ptrO] at HF ⊢
    have HLK := hide ho
    have HMY := hide (HOK.out.dir.mayOf ho)
    have HB := hide (mayBe_any m w)
    clear ho hn hm
    cases hmn : mayN m with
    | false =>
      rw [if_pos rfl]
      rw [hmn] at HB
      clear hmn
      go_enter Try.func23, Try.ntmps23
      go_wp2_with fail
      refine HF.out.mono ?_
      rintro e w' ⟨rfl, rfl⟩
      go_wp2_with fail
      refine HB.out.mono ?_
      rintro e w' ⟨rfl, rfl⟩
      go_wp2
      go_ret
      exact DidF.same HD.out (by omega) (Nat.le_refl _)
    | true =>
    rw [if_neg (by simp)]
    rw [hmn] at HB
    have HMM := hide hmn
    clear hmn
    by_cases hnm : n = m
    · rw [if_pos hnm]
      have hne : (n != m) = false := by simpa using hnm
      clear hnm
      go_enter Try.func23, Try.ntmps23
      go_wp2_with fail
      refine HF.out.mono ?_
      rintro e w' ⟨rfl, rfl⟩
      go_wp2_with fail
      refine HB.out.mono ?_
      rintro e w' ⟨rfl, rfl⟩
      go_wp2_with fail
      refine (done_any _ H.out HI.out.2).mono ?_
      rintro e W4 ⟨rfl, hd4, hon4⟩
      go_wp2
      go_ret
      exact ⟨rfl, F, ⟨L, hd4.mono (by omega), HOK.out.power _, ⟨by have := HBN.out.files; show d.files.length ≤ _; omega, by have := HBN.out.names; show d.kept.length + d.waits.length ≤ _; omega, HBN.out.bytes⟩, HI.out.1, tick_i64 HI.out.2⟩, hon4, fun _ hk => .inl hk⟩
    rw [if_neg hnm]
    have hne : (n != m) = true := by simpa using hnm
    have HNM := hide hnm
    clear hnm
    go_enter Try.func23, Try.ntmps23
    go_wp2_with fail
    refine HF.out.mono ?_
    rintro e w' ⟨rfl, rfl⟩
    go_wp2_with fail
    refine HB.out.mono ?_
    rintro e w' ⟨rfl, rfl⟩
    go_wp2_with fail
    refine HFR.out.mono ?_
    rintro e W1 ⟨rfl, hd1, hon1⟩
    have HD1 := hide hd1
    have HON1 := hide hon1
    clear hd1 hon1
    go_wp2_with fail
    refine (moveF_any n m (L.ps f) W1).mono ?_
    rintro e W2 ⟨rfl, hW2⟩
    have hb2 : Below W1.heap.size W1 W2 := by rw [hW2]; exact (((Below.refl _ _).alloc (Nat.le_refl _) _).alloc (by simp) _).alloc (by simp; omega) _
    have hs2 : W2.heap.size = W1.heap.size + 1 + 1 + 1 := by rw [hW2]; simp
    obtain ⟨hc1, hc2, hc3⟩ := threeF_new W1 (.cells #[.int .i64 n] 3) (.cells #[.int .i64 m] 3) (.cells #[ptr (L.ps f)] 67)
    rw [← hW2] at hc1 hc2 hc3
    have HD2 := hide (HD1.out.more hb2)
    have HCV : Hid (ChV (Gr F W1 W2) W2 L.ps (.move n m f) (.func (.func 57) #[] #[ptr (W1.heap.size + 1 + 1), ptr (W1.heap.size + 1), ptr W1.heap.size])) := hide ⟨_, _, _, rfl, hc1, hc2, hc3, .inr ⟨Nat.le_refl _, by omega⟩, .inr ⟨by omega, by omega⟩, .inr ⟨by omega, by omega⟩⟩
    have HON2 : Hid (Only F w' W2) := hide (HON1.out.trans (G := fun _ => False) (Only.ofBelow hb2) (fun _ _ hf => hf.elim))
    have HAP := hide (apply_any W2 HD2.out HCV.out HOK.out ⟨HMY.out.1, HMM.out, HNM.out, HMY.out.2⟩ hN (by have := HBN.out.names; omega))
    clear hb2 hs2 hc1 hc2 hc3 hW2
    go_wp2_with fail
    refine HAP.out.mono ?_
    rintro e W3 ⟨rfl, L3, hd3, -, -, hon3⟩
    have HON3 : Hid (Only F w' W3) := hide (HON2.out.trans hon3 (fun k hk hf => by
      rcases hf with hf | hf
      · exact hf
      · have := HON1.out.size; omega))
    have HD3 := hide hd3
    clear hd3 hon3 HAP
    go_wp2_with fail
    refine (done_any W3 HD3.out HI.out.2).mono ?_
    rintro e W4 ⟨rfl, hd4, hon4⟩
    go_wp2
    go_ret
    refine ⟨rfl, Gr (Gr F W1 W2) W2 W3, ⟨L3, ?_, ?_, (HBN.out.waited (.move n m f) _).mono (by omega) (Nat.le_refl _), HI.out.1, tick_i64 HI.out.2⟩, HON3.out.trans hon4 (fun k hk hf => ?_), fun k hk => ?_⟩
    · have hu := usedD_move HOK.out HNM.out HLK.out (tickD d.power)
      have e1 : (usedD { d with waits := d.waits ++ [.move n m f], power := tickD d.power } : Int) = (usedD d : Int) - (lenO d.files (look (dirD d) m) : Int) := by omega
      rw [e1]
      exact hd4.mono (by omega)
    · exact HOK.out.moved HLK.out HMM.out HNM.out _
    · rcases hf with (hf | hf) | hf
      · exact hf
      · have := HON1.out.size; omega
      · have := HON2.out.size; omega
    · rcases hk with (hk | hk) | hk
      · exact .inl hk
      · have := HON1.out.size; exact .inr (by omega)
      · have := HON2.out.size; exact .inr (by omega)

end Go.Proofs.Ytfhgjnfichgdiaa
