/- awake of layer files answers true: the chapter's example. It only makes memory of its own. -/
import Derived.Test.YtfhgjnfichgdiaaFilesJ
import Derived.Test.YtfhgjnfichgdiaaNumAwake
namespace Go.Proofs.Ytfhgjnfichgdiaa
open Go.RowKit

/-- A text's bytes as the conversion leaves them: one row more, marked behind its end. -/
def textW (w : World) (C : Array Value) : World := (w.alloc (.cells C 5)).freeze ⟨w.heap.size, C.size, none⟩ 1

theorem conv_text (w : World) (C : Array Value) (l c : Nat) : (convert 30 30 (.slice (some ⟨w.heap.size, 0, none⟩) l c)).run Try.prog (w.alloc (.cells C 5)) = .ok (.slice (some ⟨w.heap.size, 0, none⟩) l c) (textW w C) := by
  have hsh : (w.alloc (.cells C 5)).shape? w.heap.size = some (5, C.size) := by
    simp [World.shape?, World.alloc, -World.alloc_eq]
  simp [convert, run_underlying Try.underlying30, run_underlying Try.underlying5, markStringish, textW, hsh, Result.andThen]

theorem textW_below (w : World) (C : Array Value) : Below w.heap.size w (textW w C) := by
  refine ⟨rfl, rfl, rfl, ?_, fun k hk => ?_⟩
  · simp [textW, World.freeze, World.alloc, -World.alloc_eq]
  · have h1 : w.heap.size ≠ k := by omega
    simp [textW, World.freeze, World.alloc, -World.alloc_eq, Array.getElem?_modify, Array.getElem?_push, h1, Ne.symm h1]

theorem textW_cell (w : World) (C : Array Value) (j : Nat) : (textW w C).cell? ⟨w.heap.size, j, none⟩ = C[j]? := by
  have h : (textW w C).heap[w.heap.size]? = some (.cells C 5 (C.size, C.size + 1)) := by
    simp [textW, World.freeze, World.alloc, -World.alloc_eq]
    rw [Array.getElem_modify_self]
    simp
  simp [World.cell?, h]

theorem textABC (w : World) : Rd (textW w #[.int .u8 97, .int .u8 98, .int .u8 99]) (.slice (some ⟨w.heap.size, 0, none⟩) 3 3) [97, 98, 99] := by
  refine ⟨_, 3, rfl, by decide, by decide, (fun e => by cases e), .inr ⟨_, _, rfl, ?_⟩⟩
  intro j hj
  rw [Nat.zero_add, textW_cell]
  match j, hj with
  | 0, _ => rfl
  | 1, _ => rfl
  | 2, _ => rfl

theorem int2 (w : World) : RdI (w.alloc (.cells #[.int .i64 2] 3)) (.slice (some ⟨w.heap.size, 0, none⟩) 1 1) [2] := by
  refine ⟨_, 1, rfl, by decide, by decide, (fun e => by cases e), (fun n hn => by rw [List.mem_singleton.1 hn]; exact ⟨by decide, by decide⟩), .inr ⟨_, _, rfl, ?_⟩⟩
  intro j hj
  match j, hj with
  | 0, _ => rw [Nat.zero_add, cell_of_row _ w.heap.size 0 _ _ _ (heap_alloc_new w _)]; rfl

theorem rowHeadB {w : World} {B n s : Nat} {t : TypeId} {v : Value} {xs : List Value} (h : w.ownsRow B t s v n xs) : ∃ ao cap, v = .slice ao n cap ∧ n ≤ cap ∧ ((ao = none ∧ cap = 0) ∨ ∃ g, ao = some ⟨g, 0, none⟩) := by
  rcases h.2 with ⟨hv, hn⟩ | ⟨g, cap, cur, hv, _, _, hc, _⟩
  · exact ⟨none, 0, by rw [hv, hn], by omega, .inl ⟨rfl, rfl⟩⟩
  · exact ⟨some ⟨g, 0, none⟩, cap, hv, hc, .inr ⟨g, rfl⟩⟩

/-- Bytes that lie outside, or none. -/
theorem append_rd {F : Nat → Prop} {p : Nat} {d : Dk} {N T : Nat} (n : Int) (hn : I64 n) (vb : Value) (b : List UInt8) (w : World) (h : Dsk F w p d N T) (hr : Rd w vb b) (hv : b = [] ∨ ∀ k, vb.ownBlock = some k → ¬ F k) (hN : N ≤ 1000000) (hT : T ≤ 1000000000) (hbl : b.length ≤ 1000000000) :
    Calls Try.prog 15 #[ptr p, .int .i64 n, vb] w fun e w' => DidF F w p (appendD d n b).1 (appendD d n b).2 (N + 2) (T + b.length) e w' :=
  append_any n hn vb b w h hr hv hN hT hbl

theorem crash_rd {F : Nat → Prop} {p : Nat} {d : Dk} {N T : Nat} (names : Int) (vk : Value) (keep : List Int) (w : World) (h : Dsk F w p d N T) (hN : N ≤ 1000000) (hT : T ≤ 1000000000) (hr : RdI w vk keep) (hkv : keep = [] ∨ ∀ k, vk.ownBlock = some k → ¬ F k) (hkl : keep.length ≤ 1000000000) :
    Calls Try.prog 17 #[ptr p, .int .i64 names, vk] w fun e w' => e = .returned (.tuple #[]) ∧ Dsk F w' p (crashD d names keep) N T ∧ Only F w w' :=
  crash_any names vk keep w h hN hT hr hkv hkl

/-- A disk whose blocks all are new. -/
def DskB (B : Nat) (w : World) (p : Nat) (d : Dk) (N T : Nat) : Prop := ∃ F, Dsk F w p d N T ∧ ∀ k, F k → B ≤ k

theorem DskB.below {B : Nat} {w w' : World} {p : Nat} {d : Dk} {N T : Nat} (h : DskB B w p d N T) (hb : Below w.heap.size w w') : DskB B w' p d N T := by
  obtain ⟨F, h1, h2⟩ := h
  exact ⟨F, h1.below hb, h2⟩

theorem DskB.mono {B : Nat} {w : World} {p : Nat} {d : Dk} {N T N' T' : Nat} (h : DskB B w p d N T) (hN : N ≤ N') (hT : T ≤ T') : DskB B w p d N' T' := by
  obtain ⟨F, h1, h2⟩ := h
  exact ⟨F, h1.mono hN hT, h2⟩

/-- What a call does to a disk of one's own. -/
def DidB (B : Nat) (w : World) (p : Nat) (d : Dk) (code : Int) (N T : Nat) (e : Ending) (w' : World) : Prop :=
  e = .returned (.int .i64 code) ∧ DskB B w' p d N T ∧ Below B w w'

theorem DidF.toB {F : Nat → Prop} {B : Nat} {w : World} {p : Nat} {d : Dk} {code : Int} {N T : Nat} {e : Ending} {w' : World} (h : DidF F w p d code N T e w') (hB : B ≤ w.heap.size) (hF : ∀ k, F k → B ≤ k) : DidB B w p d code N T e w' := by
  obtain ⟨he, F', h1, h2, h3⟩ := h
  exact ⟨he, ⟨F', h1, fun k hk => by rcases h3 k hk with h | h; exact hF k h; omega⟩, h2.below hB hF⟩

/-- What is read from below is not the disk's. -/
def Out (B : Nat) (v : Value) : Prop := ∀ k, v.ownBlock = some k → k < B

theorem newB_any (B : Nat) (room : Int) (hr : I64 room) (w : World) (hB : B ≤ w.heap.size) :
    Calls Try.prog 6 #[.int .i64 room] w fun e w' => ∃ p, e = .returned (ptr p) ∧ DskB B w' p (newD room) 0 0 ∧ Below B w w' := by
  refine (new_any room hr w).mono ?_
  rintro e w' ⟨p, he, hd, hb⟩
  exact ⟨p, he, ⟨_, hd, fun k hk => by omega⟩, hb.mono hB⟩

theorem appendB_any {B p : Nat} {d : Dk} {N T : Nat} (n : Int) (hn : I64 n) (vb : Value) (b : List UInt8) (w : World) (h : DskB B w p d N T) (hB : B ≤ w.heap.size) (hr : Rd w vb b) (hv : ∀ F, Dsk F w p d N T → (∀ k, F k → B ≤ k) → ∀ k, vb.ownBlock = some k → ¬ F k) (hN : N ≤ 1000000) (hT : T ≤ 1000000000) (hbl : b.length ≤ 1000000000) :
    Calls Try.prog 15 #[ptr p, .int .i64 n, vb] w fun e w' => DidB B w p (appendD d n b).1 (appendD d n b).2 (N + 2) (T + b.length) e w' := by
  obtain ⟨F, h1, h2⟩ := h
  exact (append_any n hn vb b w h1 hr (.inr (hv F h1 h2)) hN hT hbl).mono fun e w' hd => hd.toB hB h2

theorem appendB_out {B p : Nat} {d : Dk} {N T : Nat} (n : Int) (hn : I64 n) (vb : Value) (b : List UInt8) (w : World) (h : DskB B w p d N T) (hB : B ≤ w.heap.size) (hr : Rd w vb b) (hv : Out B vb) (hN : N ≤ 1000000) (hT : T ≤ 1000000000) (hbl : b.length ≤ 1000000000) :
    Calls Try.prog 15 #[ptr p, .int .i64 n, vb] w fun e w' => DidB B w p (appendD d n b).1 (appendD d n b).2 (N + 2) (T + b.length) e w' :=
  appendB_any n hn vb b w h hB hr (fun F _ hF k hk hf => by have := hF k hf; have := hv k hk; omega) hN hT hbl

theorem Dsk.ltF {F : Nat → Prop} {w : World} {p : Nat} {d : Dk} {N T : Nat} (h : Dsk F w p d N T) : ∀ k, F k → k < w.heap.size := by
  obtain ⟨L, h1, _⟩ := h
  exact h1.lt

/-- What a disk had ahead is not what is new. -/
theorem appendB_new {B p : Nat} {d : Dk} {N T : Nat} (n : Int) (hn : I64 n) (vb : Value) (b : List UInt8) (w0 w : World) (h : DskB B w0 p d N T) (hb : Below w0.heap.size w0 w) (hB : B ≤ w0.heap.size) (hr : Rd w vb b) (hv : ∀ k, vb.ownBlock = some k → w0.heap.size ≤ k) (hN : N ≤ 1000000) (hT : T ≤ 1000000000) (hbl : b.length ≤ 1000000000) :
    Calls Try.prog 15 #[ptr p, .int .i64 n, vb] w fun e w' => DidB B w p (appendD d n b).1 (appendD d n b).2 (N + 2) (T + b.length) e w' := by
  obtain ⟨F, h1, h2⟩ := h
  exact (append_any n hn vb b w (h1.below hb) hr (.inr fun k hk hf => by have := h1.ltF k hf; have := hv k hk; omega) hN hT hbl).mono fun e w' hd => hd.toB (Nat.le_trans hB hb.size) h2

theorem crashB_new {B p : Nat} {d : Dk} {N T : Nat} (names : Int) (vk : Value) (keep : List Int) (w0 w : World) (h : DskB B w0 p d N T) (hb : Below w0.heap.size w0 w) (hB : B ≤ w0.heap.size) (hN : N ≤ 1000000) (hT : T ≤ 1000000000) (hr : RdI w vk keep) (hv : ∀ k, vk.ownBlock = some k → w0.heap.size ≤ k) (hkl : keep.length ≤ 1000000000) :
    Calls Try.prog 17 #[ptr p, .int .i64 names, vk] w fun e w' => e = .returned (.tuple #[]) ∧ DskB B w' p (crashD d names keep) N T ∧ Below B w w' := by
  obtain ⟨F, h1, h2⟩ := h
  exact (crash_any names vk keep w (h1.below hb) hN hT hr (.inr fun k hk hf => by have := h1.ltF k hf; have := hv k hk; omega) hkl).mono fun e w' ⟨he, hd, ho⟩ => ⟨he, ⟨F, hd, h2⟩, ho.below (Nat.le_trans hB hb.size) h2⟩

theorem newOut (b : Nat) (n c : Nat) : ∀ k, (Value.slice (some ⟨b, 0, none⟩) n c).ownBlock = some k → b ≤ k := by
  intro k hk
  have : b = k := by simpa [Value.ownBlock] using hk
  omega

theorem syncB_any {B p : Nat} {d : Dk} {N T : Nat} (n : Int) (hn : I64 n) (w : World) (h : DskB B w p d N T) (hB : B ≤ w.heap.size) :
    Calls Try.prog 21 #[ptr p, .int .i64 n] w fun e w' => DidB B w p (syncD d n).1 (syncD d n).2 (N + 2) T e w' := by
  obtain ⟨F, h1, h2⟩ := h
  exact (sync_any n hn w h1).mono fun e w' hd => hd.toB hB h2

theorem renameB_any {B p : Nat} {d : Dk} {N T : Nat} (n m : Int) (hn : I64 n) (hm : I64 m) (w : World) (h : DskB B w p d N T) (hB : B ≤ w.heap.size) (hN : N ≤ 1000000) (hT : T ≤ 1000000000) :
    Calls Try.prog 23 #[ptr p, .int .i64 n, .int .i64 m] w fun e w' => DidB B w p (renameD d n m).1 (renameD d n m).2 (N + 2) T e w' := by
  obtain ⟨F, h1, h2⟩ := h
  exact (rename_any n m hn hm w h1 hN hT).mono fun e w' hd => hd.toB hB h2

theorem removeB_any {B p : Nat} {d : Dk} {N T : Nat} (n : Int) (hn : I64 n) (w : World) (h : DskB B w p d N T) (hB : B ≤ w.heap.size) (hN : N ≤ 1000000) (hT : T ≤ 1000000000) :
    Calls Try.prog 25 #[ptr p, .int .i64 n] w fun e w' => DidB B w p (removeD d n).1 (removeD d n).2 (N + 2) T e w' := by
  obtain ⟨F, h1, h2⟩ := h
  exact (remove_any n hn w h1 hN hT).mono fun e w' hd => hd.toB hB h2

theorem syncDirB_any {B p : Nat} {d : Dk} {N T : Nat} (w : World) (h : DskB B w p d N T) (hB : B ≤ w.heap.size) :
    Calls Try.prog 16 #[ptr p] w fun e w' => DidB B w p (syncDirD d).1 (syncDirD d).2 (N + 2) T e w' := by
  obtain ⟨F, h1, h2⟩ := h
  exact (syncDir_any w h1).mono fun e w' hd => hd.toB hB h2

theorem cutB_any {B p : Nat} {d : Dk} {N T : Nat} (n : Int) (hn : I64 n) (w : World) (h : DskB B w p d N T) (hB : B ≤ w.heap.size) :
    Calls Try.prog 28 #[ptr p, .int .i64 n] w fun e w' => e = .returned (.tuple #[]) ∧ DskB B w' p (cutD d n) N T ∧ Below B w w' := by
  obtain ⟨F, h1, h2⟩ := h
  exact (cutF_any n hn w h1).mono fun e w' ⟨he, hd, ho⟩ => ⟨he, ⟨F, hd, h2⟩, ho.below hB h2⟩

theorem crashB_any {B p : Nat} {d : Dk} {N T : Nat} (names : Int) (vk : Value) (keep : List Int) (w : World) (h : DskB B w p d N T) (hB : B ≤ w.heap.size) (hN : N ≤ 1000000) (hT : T ≤ 1000000000) (hr : RdI w vk keep) (hkv : ∀ F, Dsk F w p d N T → (∀ k, F k → B ≤ k) → ∀ k, vk.ownBlock = some k → ¬ F k) (hkl : keep.length ≤ 1000000000) :
    Calls Try.prog 17 #[ptr p, .int .i64 names, vk] w fun e w' => e = .returned (.tuple #[]) ∧ DskB B w' p (crashD d names keep) N T ∧ Below B w w' := by
  obtain ⟨F, h1, h2⟩ := h
  exact (crash_any names vk keep w h1 hN hT hr (.inr (hkv F h1 h2)) hkl).mono fun e w' ⟨he, hd, ho⟩ => ⟨he, ⟨F, hd, h2⟩, ho.below hB h2⟩

theorem crashB_out {B p : Nat} {d : Dk} {N T : Nat} (names : Int) (vk : Value) (keep : List Int) (w : World) (h : DskB B w p d N T) (hB : B ≤ w.heap.size) (hN : N ≤ 1000000) (hT : T ≤ 1000000000) (hr : RdI w vk keep) (hv : Out B vk) (hkl : keep.length ≤ 1000000000) :
    Calls Try.prog 17 #[ptr p, .int .i64 names, vk] w fun e w' => e = .returned (.tuple #[]) ∧ DskB B w' p (crashD d names keep) N T ∧ Below B w w' :=
  crashB_any names vk keep w h hB hN hT hr (fun F _ hF k hk hf => by have := hF k hf; have := hv k hk; omega) hkl

theorem readB_any {B p : Nat} {d : Dk} {N T : Nat} (n : Int) (hn : I64 n) (w : World) (h : DskB B w p d N T) (hT : T ≤ 1000000000) :
    Calls Try.prog 18 #[ptr p, .int .i64 n] w fun e w' => ∃ v, e = .returned (.tuple #[v, .int .i64 (readD d n).2]) ∧ Own w' w.heap.size v (readD d n).1 ∧ Below w.heap.size w w' := by
  obtain ⟨F, h1, h2⟩ := h
  exact readF_any n hn w h1 hT

theorem onB_any {B p : Nat} {d : Dk} {N T : Nat} (w : World) (h : DskB B w p d N T) :
    Calls Try.prog 14 #[ptr p] w fun e w' => e = .returned (.bool (d.power != 0)) ∧ w' = w := by
  obtain ⟨F, ⟨L, h1, _⟩, h2⟩ := h
  exact on_any w h1

theorem usedB_any {B p : Nat} {d : Dk} {N T : Nat} (w : World) (h : DskB B w p d N T) :
    Calls Try.prog 12 #[ptr p] w fun e w' => e = .returned (.int .i64 (usedD d : Int)) ∧ w' = w := by
  obtain ⟨F, ⟨L, h1, _⟩, h2⟩ := h
  exact used_any w h1

theorem namesB_any {B p : Nat} {d : Dk} {N T : Nat} (w : World) (h : DskB B w p d N T) (hN : N ≤ 1000000) :
    Calls Try.prog 10 #[ptr p] w fun e w' => ∃ v, e = .returned v ∧ OwnI w' w.heap.size v ((dirD d).map Prod.fst) ∧ Below w.heap.size w w' := by
  obtain ⟨F, ⟨L, h1, h3, _⟩, h2⟩ := h
  exact names_any w h1 h3 hN

theorem DskB.ok {B : Nat} {w : World} {p : Nat} {d : Dk} {N T : Nat} (h : DskB B w p d N T) : OkD d ∧ Bnd d N T := by
  obtain ⟨F, ⟨L, h1, h3, h4, _⟩, h2⟩ := h
  exact ⟨h3, h4⟩

theorem allocB (w : World) (o : Obj) : Below w.heap.size w (w.alloc o) := (Below.refl _ w).alloc (Nat.le_refl _) o

/-- What is read from below, or is empty. -/
theorem appendB_rd {B p : Nat} {d : Dk} {N T : Nat} (n : Int) (hn : I64 n) (vb : Value) (b : List UInt8) (w : World) (h : DskB B w p d N T) (hB : B ≤ w.heap.size) (hr : Rd w vb b) (hv : b = [] ∨ ∀ k, vb.ownBlock = some k → k < B) (hN : N ≤ 1000000) (hT : T ≤ 1000000000) (hbl : b.length ≤ 1000000000) :
    Calls Try.prog 15 #[ptr p, .int .i64 n, vb] w fun e w' => DidB B w p (appendD d n b).1 (appendD d n b).2 (N + 2) (T + b.length) e w' := by
  obtain ⟨F, h1, h2⟩ := h
  exact (append_rd n hn vb b w h1 hr (by
    rcases hv with hv | hv
    · exact .inl hv
    · exact .inr fun k hk hf => by have := h2 k hf; have := hv k hk; omega) hN hT hbl).mono fun e w' hd => hd.toB hB h2

theorem RdI.blockLtI {w : World} {v : Value} {l : List Int} (h : RdI w v l) : l = [] ∨ ∀ k, v.ownBlock = some k → k < w.heap.size := by
  obtain ⟨ao, cap, rfl, h2, h3, hn, hi, h4⟩ := h
  rcases h4 with h4 | ⟨b, off, rfl, h6⟩
  · exact .inl h4
  · by_cases e : l = []
    · exact .inl e
    · right
      intro k hk
      obtain rfl : b = k := by simpa [Value.ownBlock] using hk
      exact World.block_lt_of_cell? w ⟨b, off + 0, none⟩ (h6 0 (List.length_pos_iff.2 e))

theorem crashB_rd {B p : Nat} {d : Dk} {N T : Nat} (names : Int) (vk : Value) (keep : List Int) (w : World) (h : DskB B w p d N T) (hB : B ≤ w.heap.size) (hN : N ≤ 1000000) (hT : T ≤ 1000000000) (hr : RdI w vk keep) (hv : keep = [] ∨ ∀ k, vk.ownBlock = some k → k < B) (hkl : keep.length ≤ 1000000000) :
    Calls Try.prog 17 #[ptr p, .int .i64 names, vk] w fun e w' => e = .returned (.tuple #[]) ∧ DskB B w' p (crashD d names keep) N T ∧ Below B w w' := by
  obtain ⟨F, h1, h2⟩ := h
  exact (crash_rd names vk keep w h1 hN hT hr (by
    rcases hv with hv | hv
    · exact .inl hv
    · exact .inr fun k hk hf => by have := h2 k hf; have := hv k hk; omega) hkl).mono fun e w' ⟨he, hd, ho⟩ => ⟨he, ⟨F, hd, h2⟩, ho.below hB h2⟩

def exF1 : Dk := (appendD (newD 100) 5 [97, 98, 99]).1
def exF2 : Dk := (syncDirD exF1).1
def exF3 : Dk := crashD exF2 0 [2]
def exF4 : Dk := crashD exF1 0 [2]

theorem exF_codes : (appendD (newD 100) 5 [97, 98, 99]).2 = 0 ∧ (syncDirD exF1).2 = 0 ∧ readD exF3 5 = ([97, 98], 0) ∧ (readD exF4 5).2 = 8 ∧ (exF3.power != 0) = true := by decide +kernel

set_option maxRecDepth 100000 in
set_option maxHeartbeats 2000000 in
theorem awakeF_any (w : World) :
    Calls Try.prog 4 #[] w fun e w' => e = .returned (.bool true) ∧ Below w.heap.size w w' := by
  have hpe : ∀ (w : World) (p : Nat), (binOp .eql 25 (ptr p) (.pointer none)).run Try.prog w = .ok (.bool false) w := fun w p => by kernel_rfl
  obtain ⟨B, hB⟩ : ∃ B, B = w.heap.size := ⟨_, rfl⟩
  have hB0 : B ≤ w.heap.size := by omega
  rw [← hB]
  have HN := hide (newB_any B 100 ⟨by decide, by decide⟩ w hB0)
  clear hB
  go_enter Try.func4, Try.ntmps4
  go_wp2_with fail
  refine HN.out.mono ?_
  rintro e W1 ⟨p, rfl, hd1, hb1⟩
  have HD1 := hide hd1
  have HB1 := hide hb1
  have HS1 : Hid (B ≤ W1.heap.size) := hide (Nat.le_trans hB0 hb1.size)
  clear hd1 hb1
  have hcv1 := conv_text W1 #[.int .u8 97, .int .u8 98, .int .u8 99] 3 3
  have HT1 := hide (textABC W1)
  have HTB1 := hide (textW_below W1 #[.int .u8 97, .int .u8 98, .int .u8 99])
  obtain ⟨T1, hT1⟩ : ∃ T, T = textW W1 #[.int .u8 97, .int .u8 98, .int .u8 99] := ⟨_, rfl⟩
  rw [← hT1] at hcv1 HT1 HTB1
  clear hT1
  have HA := hide (appendB_new (B := B) 5 ⟨by decide, by decide⟩ _ _ W1 T1 HD1.out HTB1.out HS1.out HT1.out (newOut _ _ _) (by decide) (by decide) (by decide))
  have HBT : Hid (Below B w T1) := hide (HB1.out.trans (HTB1.out.mono HS1.out))
  rw [exF_codes.1] at HA
  clear HT1 HTB1 HB1 HD1 HN
  go_wp2_with fail
  refine HA.out.mono ?_
  rintro e W2 ⟨rfl, hd2, hb2⟩
  have HD2 : Hid (DskB B W2 p exF1 2 3) := hide hd2
  have HB2 := hide (HBT.out.trans hb2)
  have HS2 : Hid (B ≤ W2.heap.size) := hide (Nat.le_trans hB0 HB2.out.size)
  clear hd2 hb2 HA HBT hcv1
  have HSD := hide (syncDirB_any W2 HD2.out HS2.out)
  rw [exF_codes.2.1] at HSD
  go_wp2_with fail
  refine HSD.out.mono ?_
  rintro e W3 ⟨rfl, hd3, hb3⟩
  have HD3 : Hid (DskB B W3 p exF2 4 3) := hide hd3
  have HB3 := hide (HB2.out.trans hb3)
  have HS3 : Hid (B ≤ W3.heap.size) := hide (Nat.le_trans hB0 HB3.out.size)
  clear hd3 hb3 HSD HD2 HB2
  have HCR := hide (crashB_new (B := B) 0 _ [2] W3 (W3.alloc (.cells #[.int .i64 2] 3)) HD3.out (allocB _ _) HS3.out (by decide) (by decide) (int2 W3) (newOut _ _ _) (by decide))
  have HBA : Hid (Below B w (W3.alloc (.cells #[.int .i64 2] 3))) := hide (HB3.out.trans ((allocB _ _).mono HS3.out))
  go_wp2_with fail
  refine HCR.out.mono ?_
  rintro e W4 ⟨rfl, hd4, hb4⟩
  have HD4 : Hid (DskB B W4 p exF3 4 3) := hide hd4
  have HB4 := hide (HBA.out.trans hb4)
  have HS4 : Hid (B ≤ W4.heap.size) := hide (Nat.le_trans hB0 HB4.out.size)
  clear hd4 hb4 HCR HBA HD3 HB3
  have HRD := hide (readB_any 5 ⟨by decide, by decide⟩ W4 HD4.out (by decide))
  rw [exF_codes.2.2.1] at HRD
  go_wp2_with fail
  refine HRD.out.mono ?_
  rintro e W5 ⟨vr, rfl, ho5, hb5⟩
  have HD5 := hide (HD4.out.below hb5)
  have HB5 := hide (HB4.out.trans (hb5.mono HS4.out))
  have HS5 : Hid (B ≤ W5.heap.size) := hide (Nat.le_trans hB0 HB5.out.size)
  have HV5 := hide ho5
  clear ho5 hb5 HRD HD4 HB4
  have HN2 := hide (newB_any W5.heap.size 100 ⟨by decide, by decide⟩ W5 (Nat.le_refl _))
  go_wp2_with fail
  refine HN2.out.mono ?_
  rintro e W6 ⟨p6, rfl, hd6, hb6⟩
  have HD6 := hide hd6
  have HK6 := hide hb6
  have HB6 := hide (HB5.out.trans (hb6.mono HS5.out))
  have HS6 : Hid (W5.heap.size ≤ W6.heap.size) := hide hb6.size
  clear hd6 hb6 HN2
  have hcv6 := conv_text W6 #[.int .u8 97, .int .u8 98, .int .u8 99] 3 3
  have HT6 := hide (textABC W6)
  have HTB6 := hide (textW_below W6 #[.int .u8 97, .int .u8 98, .int .u8 99])
  obtain ⟨T6, hT6⟩ : ∃ T, T = textW W6 #[.int .u8 97, .int .u8 98, .int .u8 99] := ⟨_, rfl⟩
  rw [← hT6] at hcv6 HT6 HTB6
  clear hT6
  have HA := hide (appendB_new (B := W5.heap.size) 5 ⟨by decide, by decide⟩ _ _ W6 T6 HD6.out HTB6.out HS6.out HT6.out (newOut _ _ _) (by decide) (by decide) (by decide))
  have HKT : Hid (Below W5.heap.size W5 T6) := hide (HK6.out.trans (HTB6.out.mono HS6.out))
  rw [exF_codes.1] at HA
  clear HT6 HTB6 HD6 HK6 HB6
  go_wp2_with fail
  refine HA.out.mono ?_
  rintro e W7 ⟨rfl, hd7, hb7⟩
  have HD7 : Hid (DskB W5.heap.size W7 p6 exF1 2 3) := hide hd7
  have HK7 := hide (HKT.out.trans hb7)
  have HS7 : Hid (W5.heap.size ≤ W7.heap.size) := hide HK7.out.size
  clear hd7 hb7 HA HKT hcv6
  have HCR := hide (crashB_new (B := W5.heap.size) 0 _ [2] W7 (W7.alloc (.cells #[.int .i64 2] 3)) HD7.out (allocB _ _) HS7.out (by decide) (by decide) (int2 W7) (newOut _ _ _) (by decide))
  have HKA : Hid (Below W5.heap.size W5 (W7.alloc (.cells #[.int .i64 2] 3))) := hide (HK7.out.trans ((allocB _ _).mono HS7.out))
  go_wp2_with fail
  refine HCR.out.mono ?_
  rintro e W8 ⟨rfl, hd8, hb8⟩
  have HD8 : Hid (DskB W5.heap.size W8 p6 exF4 2 3) := hide hd8
  have HK8 := hide (HKA.out.trans hb8)
  clear hd8 hb8 HCR HKA HD7 HK7
  have HRD := hide (readB_any 5 ⟨by decide, by decide⟩ W8 HD8.out (by decide))
  rw [exF_codes.2.2.2.1] at HRD
  go_wp2_with fail
  refine HRD.out.mono ?_
  rintro e W9 ⟨vr9, rfl, ho9, hb9⟩
  have HK9 : Hid (Below W5.heap.size W5 W9) := hide (HK8.out.trans (hb9.mono HK8.out.size))
  have HDN := hide (HD5.out.below HK9.out)
  have HON := hide (onB_any W9 HDN.out)
  rw [exF_codes.2.2.2.2] at HON
  have hstr := (HV5.out.rd.below HK9.out (Nat.le_refl _)).str
  have HB9 : Hid (Below B w W9) := hide (HB5.out.trans (HK9.out.mono HS5.out))
  clear ho9 hb9
  have hse : (bs [97, 98]).toList = [97, 98] := bs_list _
  go_wp2_with fail
  refine HON.out.mono ?_
  rintro e W10 ⟨rfl, rfl⟩
  go_wp2
  go_ret
  exact ⟨rfl, HB9.out⟩

end Go.Proofs.Ytfhgjnfichgdiaa
