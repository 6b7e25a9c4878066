import Derived.Test.YtpopbandpnaicaaGreatDoorPack2
import Derived.Test.YtpopbandpnaicaaGreatDoorPack7
import Derived.Test.YtpopbandpnaicaaGreatDoorPack8
import Derived.Deep.RegionHeld
import Derived.Test.YtpopbandpnaicaaGreatDoorPack4
import Derived.Deep.QuietTactic
import Derived.BigQuiet
import Derived.Deep.RegionHeld2
import Derived.Test.YtpopbandpnaicaaGreatDoorPack1
import Derived.Test.YtpopbandpnaicaaGreatDoorPack6
import Derived.Test.YtpopbandpnaicaaGreatDoorPack5
import Derived.Maps.OwnOps
import Derived.Maps.Views
namespace Go.Proofs.YtpopbandpnaicaaGreatDoor

theorem uv_small {n : Nat} (h : n < 128) : Lib.uvarint n = [n.toUInt8] := Lib.uvarint_small h

theorem readH_head {v k f : Nat} (h1 : 1 <= v) (h3 : v <= 3) (hk : k < 6) (hf : f < 4611686018427387904) : readH (headS v k f) = .ok (v, k, f) := by
 have q1 := Lib.uvarint_pos v
 have q2 := Lib.uvarint_pos k
 have q3 := Lib.uvarint_pos f
 have d1 : dec62 ((headS v k f).drop 1) = (v, (Lib.uvarint v).length) := by
   unfold headS
   rw [List.drop_succ_cons, List.drop_zero]
   exact dec62_uvarint _ _ (by omega)
 have e2 : (headS v k f).drop (1 + (Lib.uvarint v).length) = Lib.uvarint k ++ Lib.uvarint f := by
   unfold headS
   rw [Nat.add_comm, List.drop_succ_cons, List.drop_left]
 have d2 : dec62 ((headS v k f).drop (1 + (Lib.uvarint v).length)) = (k, (Lib.uvarint k).length) := by
   rw [e2]
   exact dec62_uvarint _ _ (by omega)
 have e3 : (headS v k f).drop (1 + (Lib.uvarint v).length + (Lib.uvarint k).length) = Lib.uvarint f := by
   rw [<- List.drop_drop, e2, List.drop_left]
 have d3 : dec62 ((headS v k f).drop (1 + (Lib.uvarint v).length + (Lib.uvarint k).length)) = (f, (Lib.uvarint f).length) := by
   rw [e3]
   have := dec62_uvarint f [] hf
   rw [List.append_nil] at this
   exact this
 have hl : (headS v k f).length = 1 + (Lib.uvarint v).length + (Lib.uvarint k).length + (Lib.uvarint f).length := by
   unfold headS
   simp only [List.length_cons, List.length_append]
   omega
 unfold readH
 simp only [d1, d2, d3]
 rw [if_neg (by rintro (h | h); exact absurd h (by unfold headS; simp); exact h rfl), if_neg (by omega), if_neg (by omega), if_neg (by omega)]

theorem headS_len {v k f : Nat} (h3 : v <= 3) (hk : k < 6) (hf : f < 4611686018427387904) : (headS v k f).length <= 40 := by
 have q1 : (Lib.uvarint v).length <= 10 := Lib.uvarint_length64 (by omega)
 have q2 : (Lib.uvarint k).length <= 10 := Lib.uvarint_length64 (by omega)
 have q3 : (Lib.uvarint f).length <= 10 := Lib.uvarint_length64 (by omega)
 unfold headS
 simp only [List.length_cons, List.length_append]
 omega

theorem encOne_len8 {pre : List Rec} (hp : ∀ r ∈ pre, FitsR r) {r : Rec} (hr : FitsR r) : (encOne pre r).length <= 60 := by
 have hd := diff_i64 hp hr
 have hresp := fitsR_resp hr
 obtain ⟨g1, _, _, _, _, hp0, hp1, _⟩ := hr
 have q1 : (Lib.uvarint r.proc.toNat).length <= 10 := Lib.uvarint_length64 (by omega)
 have q2 : (Lib.uvarint (Lib.zigzag (r.seq - lastSeq pre r.proc))).length <= 10 := Lib.uvarint_length64 (zig_lt hd)
 have q4 : (Lib.uvarint r.op.code.toNat).length <= 10 := Lib.uvarint_length64 (by have := g1.1; have := g1.2.1; omega)
 have q5 : (Lib.uvarint (Lib.zigzag r.op.a)).length <= 10 := Lib.uvarint_length64 (zig_lt (fits_i64 g1).1)
 have q6 : (Lib.uvarint (Lib.zigzag r.op.b)).length <= 10 := Lib.uvarint_length64 (zig_lt (fits_i64 g1).2)
 have q7 : (Lib.uvarint (Lib.zigzag r.resp)).length <= 10 := Lib.uvarint_length64 (zig_lt hresp)
 unfold encOne putOpL
 simp only [List.length_append]
 omega

theorem encRs_len8 : ∀ (l pre : List Rec), (∀ r ∈ pre, FitsR r) -> (∀ r ∈ l, FitsR r) -> (encRs pre l).length <= 60 * l.length
 | [], _, _, _ => by simp [encRs]
 | r :: t, pre, hp, hl => by
   have hr := hl r (by simp)
   have h1 := encOne_len8 hp hr
   have h2 := encRs_len8 t (pre ++ [r]) (fun s hs => by
     rcases List.mem_append.1 hs with h | h
     · exact hp s h
     · rw [List.mem_singleton.1 h]; exact hr) (fun s hs => hl s (by simp [hs]))
   rw [encRs, List.length_append, List.length_cons]
   omega

theorem readH_sound {d : List UInt8} {v k f : Nat} (h : readH d = .ok (v, k, f)) : d = headS v k f ∧ 1 <= v ∧ v <= 3 ∧ k < 6 ∧ f < 4611686018427387904 := by
 unfold readH at h
 simp only at h
 split at h
 · cases h
 rename_i g1
 split at h
 · cases h
 rename_i g2
 split at h
 · cases h
 rename_i g3
 split at h
 · cases h
 rename_i g4
 simp only [Except.ok.injEq, Prod.mk.injEq] at h
 obtain ⟨hv, hk, hf⟩ := h
 have t1 := dec62_take (l := d.drop 1) (by omega)
 have t2 := dec62_take (l := d.drop (1 + (dec62 (d.drop 1)).2)) (by omega)
 have t3 := dec62_take (l := d.drop (1 + (dec62 (d.drop 1)).2 + (dec62 (d.drop (1 + (dec62 (d.drop 1)).2))).2)) (by omega)
 have hf62 : f < 4611686018427387904 := by
   rw [<- hf]
   rcases dec62_cases (d.drop (1 + (dec62 (d.drop 1)).2 + (dec62 (d.drop (1 + (dec62 (d.drop 1)).2))).2)) with h | h
   · rw [h]; decide
   · exact h.1
 rw [hv] at t1 g3
 rw [hk] at t2 g4
 rw [hf] at t3
 generalize (dec62 (d.drop 1)).2 = i at *
 generalize (dec62 (d.drop (1 + i))).2 = j at *
 generalize (dec62 (d.drop (1 + i + j))).2 = m at *
 refine ⟨?_, by omega, by omega, by omega, hf62⟩
 cases d with
 | nil => exact absurd (.inl rfl) g1
 | cons c t =>
   have hc : c = 108 := by
     have := fun h => g1 (.inr h)
     simpa using Decidable.not_not.1 this
   have x1 : (c :: t).drop 1 = t := rfl
   have x2 : (c :: t).drop (1 + i) = t.drop i := by rw [Nat.add_comm, List.drop_succ_cons]
   have x3 : (c :: t).drop (1 + i + j) = (t.drop i).drop j := by rw [<- List.drop_drop, x2]
   rw [x1] at t1
   rw [x2] at t2
   rw [x3] at t3
   have hm : m = ((t.drop i).drop j).length := by
     have : 1 + i + j + m = (c :: t).length := Decidable.not_not.1 (fun h => g2 (.inr (.inr (.inr h))))
     rw [List.length_cons] at this
     rw [List.length_drop, List.length_drop]
     omega
   rw [hm, List.take_length] at t3
   unfold headS
   rw [hc, t1, t2, t3, List.take_append_drop, List.take_append_drop]

open Go.RowKit

def HeadOk (k f : Int) : Prop := 0 <= k ∧ k < 6 ∧ 0 <= f ∧ f < 4611686018427387904

instance (k f : Int) : Decidable (HeadOk k f) := by unfold HeadOk; infer_instance

def headErr (v k f : Int) : Int := if 1 <= v ∧ v <= 3 then (if HeadOk k f then 0 else 1) else 6

def headL (v k f : Int) : List UInt8 := if 1 <= v ∧ v <= 3 then (if HeadOk k f then frameOf (headS v.toNat k.toNat f.toNat) else []) else []

def Headed (w : World) (v k f : Int) (e : Ending) (w' : World) : Prop :=
 ∃ v', e = .returned (.tuple #[v', .int .i64 (headErr v k f)]) ∧ Own w' w.heap.size v' (headL v k f) ∧ Below w.heap.size w w'

theorem Rd.byte (w : World) (c : UInt8) : Rd (w.alloc (.cells #[.int .u8 c.toNat] 5)) (.slice (some ⟨w.heap.size, 0, none⟩) 1 1) [c] := by
 refine ⟨some ⟨w.heap.size, 0, none⟩, 1, rfl, Nat.le_refl _, by unfold maxLen; omega, (fun h => by cases h), .inr ⟨w.heap.size, 0, rfl, fun j hj => ?_⟩⟩
 have e : j = 0 := by simpa using hj
 subst e
 rw [cell_of_row _ w.heap.size 0 _ 5 (0, 0) (heap_alloc_new w _)]
 rfl

theorem frame_ok {l : List UInt8} (h : l.length <= 1048576) : encF l = (frameOf l, 0) := by
 unfold encF
 rw [if_pos h]

theorem takeL_snoc {L : List (List UInt8)} {q : Nat} (h : q < L.length) : L.take (q + 1) = L.take q ++ [L.getD q []] := by
 rw [List.take_add_one]
 simp [List.getD, h]

theorem RdL.at {w : World} {ao : Option Addr} {n cap : Nat} {L : List (List UInt8)} (h : RdL w (.slice ao n cap) L) (k : Nat) (hk : k < L.length) :
   ∃ b off x, ao = some ⟨b, off, none⟩ ∧ (∀ W, Below w.heap.size w W -> W.cell? ⟨b, off + k, none⟩ = some x) ∧ ∀ W, Below w.heap.size w W -> Rd W x (L.getD k []) := by
 obtain ⟨ao', cap', e, _, _, _, hao⟩ := h
 simp only [Value.slice.injEq] at e
 obtain ⟨rfl, _, rfl⟩ := e
 rcases hao with h0 | ⟨b, off, hab, hc⟩
 · rw [h0] at hk; simp at hk
 · obtain ⟨x, hx, hxr⟩ := hc k hk
   have hlt : b < w.heap.size := World.block_lt_of_cell? w ⟨b, off + k, none⟩ hx
   exact ⟨b, off, x, hab, fun W hb => (hb.cell (p := ⟨b, off + k, none⟩) hlt).trans hx, fun W hb => hxr.below hb (Nat.le_refl _)⟩

theorem flatten_take_len : ∀ (L : List (List UInt8)) (k : Nat), (L.take k).flatten.length <= L.flatten.length
 | [], k => by simp
 | x :: L, 0 => by simp
 | x :: L, k + 1 => by
   have := flatten_take_len L k
   rw [List.take_succ_cons, List.flatten_cons, List.flatten_cons, List.length_append, List.length_append]
   omega

theorem getD_mem {L : List (List UInt8)} {q : Nat} (h : q < L.length) : L.getD q [] ∈ L := by
 have e : L.getD q [] = L[q] := by simp [List.getD, h]
 rw [e]
 exact List.getElem_mem h

theorem flatten_frames (B : List (List UInt8)) : (B.map frameOf).flatten = framesOf B := by
 unfold framesOf
 rw [List.flatMap_def]

theorem dec62_lt (l : List UInt8) : (dec62 l).1 < 4611686018427387904 := by
 rcases dec62_cases l with h | h
 · rw [h]; decide
 · exact h.1

theorem cut_form (W : World) (ao : Option Addr) (cap : Nat) (l : List UInt8) (hr : Rd W (.slice ao l.length cap) l) (n : Nat) (hn : n <= l.length) : Rd W (.slice (if cap = n then ao else Option.map (fun x => x.add n) ao) (l.length - n) (cap - n)) (l.drop n) := by
 have hlc : l.length <= cap := by
   obtain ⟨a, c, e, h, -⟩ := hr
   simp only [Value.slice.injEq] at e
   omega
 have h := hr.mid n l.length cap (by omega) (by omega) (by omega) (by omega)
 rw [List.take_of_length_le (by rw [List.length_drop]; omega)] at h
 simpa [sliced] using h

theorem run_cut_all (W : World) (ao : Option Addr) (l : List UInt8) (cap : Nat) (_hlc : l.length <= cap) (i : Int) (n : Nat) (hi : i = (n : Int)) (hn : n <= l.length) :
   (Instr.sliceAt 53 (.slice ao l.length cap) (some (.int .i64 i)) none none).run Tryz.prog W = .ok (sliced ao n l.length cap 1) W := by
 subst hi
 rw [run_sliceAt_slice W 53 _ _ _ _ under_bytes, run_slice_l W 53 ao l.length cap under_bytes .i64 (n : Int) (by omega) (by omega), elem_bytes, size_u8]
 rfl

def DecodedB (w : World) (b : List UInt8) (e : Ending) (w' : World) : Prop :=
 ∃ (vl : Value) (l : List Rec) (n : Int), e = .returned (.tuple #[vl, .int .i64 n]) ∧ RdR w' vl l ∧ DecB b l n ∧ Below w.heap.size w w'

theorem DecodedB.none {w w' : World} {b : List UInt8} (h : ∀ l', FitsB l' -> encB l' ≠ b) (hb : Below w.heap.size w w') : DecodedB w b (.returned (.tuple #[.slice none 0 0, .int .i64 3])) w' :=
 ⟨_, [], 3, rfl, RdR.nil _, .inr ⟨rfl, rfl, h⟩, hb⟩

theorem fitsB_head {l : List Rec} (h : FitsB l) : FitsR (l.headD zeroR) := by
 obtain ⟨h1, _, hf, _⟩ := h
 match l, h1 with
 | r :: u, _ => exact hf r (by simp)

theorem encB_begins {l : List Rec} (h : FitsB l) {b : List UInt8} (hb : encB l = b) :
   ((dec62 b).1 : Int) = (l.headD zeroR).idx ∧ (dec62 b).2 ≠ 0 ∧ (dec62 (b.drop (dec62 b).2)).1 = l.length ∧ (dec62 (b.drop (dec62 b).2)).2 ≠ 0 ∧ b.drop ((dec62 b).2 + (dec62 (b.drop (dec62 b).2)).2) = encRs [] l := by
 obtain ⟨_, i0, i1, _⟩ := fitsB_head h
 have h2 := h.2.1
 subst hb
 have d1 : dec62 (encB l) = ((l.headD zeroR).idx.toNat, (Lib.uvarint (l.headD zeroR).idx.toNat).length) := dec62_uvarint _ _ (by omega)
 have e1 : (encB l).drop (Lib.uvarint (l.headD zeroR).idx.toNat).length = Lib.uvarint l.length ++ encRs [] l := by
   unfold encB
   rw [List.drop_left]
 have d2 := dec62_uvarint l.length (encRs [] l) (by omega)
 rw [d1]
 simp only
 rw [e1, d2]
 refine ⟨by omega, uv_ne _, rfl, uv_ne _, ?_⟩
 rw [<- List.drop_drop, e1, List.drop_left]

theorem cut_at (w : World) (ao : Option Addr) (l : List UInt8) (cap : Nat) (hr : Rd w (.slice ao l.length cap) l) (n : Nat) (hn : n <= l.length) :
   ∃ a c, Rd w (.slice a (l.drop n).length c) (l.drop n) ∧ ∀ i : Int, i = (n : Int) -> ∀ W, (Instr.sliceAt 53 (.slice ao l.length cap) (some (.int .i64 i)) none none).run Tryz.prog W = .ok (.slice a (l.drop n).length c) W := by
 have h := cut_form w ao cap l hr n hn
 have hlc : l.length <= cap := by
   obtain ⟨a, c, e, h, -⟩ := hr
   simp only [Value.slice.injEq] at e
   omega
 refine ⟨_, _, by rw [List.length_drop]; exact h, fun i hi W => ?_⟩
 rw [run_cut_all W ao l cap hlc i n hi hn, List.length_drop]
 simp [sliced]

theorem readH_none {d : List UInt8} (h : d = [] ∨ d.getD 0 0 ≠ 108) : readH d = .error 3 := by
 unfold readH
 rw [if_pos h]

theorem readH_some {d : List UInt8} (h : ¬ (d = [] ∨ d.getD 0 0 ≠ 108)) {v i k j f m : Nat} (h1 : dec62 (d.drop 1) = (v, i)) (h2 : dec62 (d.drop (1 + i)) = (k, j)) (h3 : dec62 (d.drop (1 + i + j)) = (f, m)) :
   readH d = if i = 0 ∨ j = 0 ∨ m = 0 ∨ 1 + i + j + m ≠ d.length then .error 3 else if v < 1 ∨ 3 < v then .error 6 else if 6 <= k then .error 1 else .ok (v, k, f) := by
 unfold readH
 rw [if_neg h, h1]
 simp only
 rw [h2]
 simp only
 rw [h3]

theorem recOk_of_fits {r : Rec} (h : FitsR r) : RecOk r := by
 have hresp := fitsR_resp h
 obtain ⟨g1, g2, g3, g4, g5, g6, g7, _, _⟩ := h
 have hab := fits_i64 g1
 exact ⟨⟨by omega, by omega⟩, ⟨by omega, by omega⟩, ⟨by omega, by omega⟩, ⟨⟨by have := g1.1; omega, by have := g1.2.1; omega⟩, hab.1, hab.2⟩, hresp⟩

def walkL (L : List (List UInt8)) (v k f : Nat) : Seg × Nat × Int := (⟨k, f, (walkB v f L.tail [] 16).1⟩, 1 + (walkB v f L.tail [] 16).2.1, (walkB v f L.tail [] 16).2.2)

theorem OwnR.set {w : World} {C : Nat} {v : Value} {l : List Rec} (h : OwnR w C v l) (R i : Nat) (hR : R < C) (x : Value) : OwnR (w.setCell ⟨R, i, none⟩ x) C v l := ownsRow_setCell_below h hR x

theorem belowThree {C : Nat} {w0 w : World} (h : Below C w0 w) (R : Nat) (hR : C <= R) (x0 x1 x2 : Value) : Below C w0 (((w.setCell ⟨R, 0, none⟩ x0).setCell ⟨R, 1, none⟩ x1).setCell ⟨R, 2, none⟩ x2) :=
 ((h.setCell hR _).setCell hR _).setCell hR _

theorem walkB_step (v : Nat) (first : Int) (d : List UInt8) (ds : List (List UInt8)) (acc : List Rec) (last : Nat) :
   walkB v first (d :: ds) acc last = match readBk v d (first + acc.length) with
     | none => (acc, 0, 3)
     | some r => if last < 16 then (acc, 0, 3) else if 4096 < acc.length + r.length then (acc, 0, 5)
         else ((walkB v first ds (acc ++ r) r.length).1, (walkB v first ds (acc ++ r) r.length).2.1 + 1, (walkB v first ds (acc ++ r) r.length).2.2) := by
 rw [walkB]
 cases readBk v d (first + acc.length) <;> rfl

theorem drop_one {L : List (List UInt8)} {j : Nat} (hj : j < L.length) : L.drop j = L.getD j [] :: L.drop (j + 1) := by
 rw [List.drop_eq_getElem_cons hj]
 simp [List.getD, hj]

theorem wholeF_some : ∀ (n : Nat) (b : List UInt8), b.length <= n -> framesOf (wholeF b).1 = b.take (wholeF b).2.1 ∧ ∀ x ∈ (wholeF b).1, x.length <= 1048576
 | 0, b, hn => by
   have e : b = [] := List.eq_nil_of_length_eq_zero (by omega)
   subst e
   rw [wholeF_nil]
   exact ⟨rfl, by simp⟩
 | n + 1, b, hn => by
   by_cases e : b = []
   · subst e
     rw [wholeF_nil]
     exact ⟨rfl, by simp⟩
   by_cases hd : (decF b).2.2 = 0
   · obtain ⟨d1, d2, d3, d4⟩ := decF_ok hd
     have h5 := decF_five hd
     rw [wholeF_step e hd]
     obtain ⟨i1, i2⟩ := wholeF_some n (b.drop (decF b).2.1) (by rw [List.length_drop]; omega)
     refine ⟨?_, fun x hx => ?_⟩
     · show framesOf ((decF b).1 :: (wholeF (b.drop (decF b).2.1)).1) = b.take ((decF b).2.1 + (wholeF (b.drop (decF b).2.1)).2.1)
       rw [framesOf_cons, i1, <- d4, List.take_add]
     · rcases List.mem_cons.1 hx with hx | hx
       · rw [hx]; exact d1
       · exact i2 x hx
   · rw [wholeF_stop e hd]
     exact ⟨rfl, by simp⟩

theorem framesOf_mem : ∀ (L : List (List UInt8)) (x : List UInt8), x ∈ L -> x.length + 5 <= (framesOf L).length
 | y :: L, x, hx => by
   rw [framesOf_cons, List.length_append]
   rcases List.mem_cons.1 hx with h | h
   · rw [h, frameOf_length]
     have := Lib.uvarint_pos y.length
     omega
   · have := framesOf_mem L x h
     omega

theorem framesOf_many : ∀ (L : List (List UInt8)), 5 * L.length <= (framesOf L).length
 | [] => by simp
 | y :: L => by
   have := framesOf_many L
   have := frameOf_pos y
   rw [framesOf_cons, List.length_append, List.length_cons]
   omega

theorem wholeF_bounds (b : List UInt8) : (∀ x ∈ (wholeF b).1, x.length <= 1048576 ∧ x.length <= b.length) ∧ 5 * (wholeF b).1.length <= b.length := by
 obtain ⟨h1, h2⟩ := wholeF_some _ b (Nat.le_refl _)
 have h3 : (framesOf (wholeF b).1).length <= b.length := by
   rw [h1, List.length_take]
   omega
 refine ⟨fun x hx => ⟨h2 x hx, ?_⟩, ?_⟩
 · have := framesOf_mem _ x hx
   omega
 · have := framesOf_many (wholeF b).1
   omega

theorem tail_init {L : List (List UInt8)} (h : 2 <= L.length) : (L.take (L.length - 1)).headD [] = L.headD [] ∧ (L.take (L.length - 1)).tail = L.tail.dropLast ∧ L.getLastD [] = L.getD (L.length - 1) [] ∧ L.headD [] = (L.take (L.length - 1)).getD 0 [] := by
 match L, h with
 | x :: y :: t, _ =>
   refine ⟨rfl, ?_, ?_, rfl⟩
   · show ((x :: y :: t).take (t.length + 1)).tail = (y :: t).dropLast
     rw [List.take_succ_cons, List.tail_cons, List.dropLast_eq_take, List.length_cons]
     rfl
   · rw [List.getLastD_eq_getLast?, List.getLast?_eq_getElem?]
     simp [List.getD]

theorem decL8_walk {L : List (List UInt8)} (h2 : 2 <= L.length) : decL8 L = match readH ((L.take (L.length - 1)).headD []) with
   | .error e => (zeroG, e)
   | .ok (v, k, f) => if (walkL (L.take (L.length - 1)) v k f).2.2 ≠ 0 then (zeroG, (walkL (L.take (L.length - 1)) v k f).2.2)
     else if footS ((L.take (L.length - 1)).headD []) (L.take (L.length - 1)).tail = L.getD (L.length - 1) [] then ((walkL (L.take (L.length - 1)) v k f).1, 0) else (zeroG, 16) := by
 obtain ⟨e1, e2, e3, _⟩ := tail_init h2
 unfold decL8 walkL
 rw [if_neg (by omega), e1, e2, e3]
 cases readH (L.headD []) <;> rfl

theorem cutL_at (w : World) (ao : Option Addr) (L : List (List UInt8)) (m cap : Nat) (hm : m = L.length) (hr : RdL w (.slice ao m cap) L) (n : Nat) (hn : n <= L.length) :
   ∃ a c, RdL w (.slice a (L.drop n).length c) (L.drop n) ∧ ∀ i : Int, i = (n : Int) -> ∀ W, (Instr.sliceAt 146 (.slice ao m cap) (some (.int .i64 i)) none none).run Tryz.prog W = .ok (.slice a (L.drop n).length c) W := by
 subst hm
 have hlc : L.length <= cap := by
   obtain ⟨a, c, e, h, -⟩ := hr
   simp only [Value.slice.injEq] at e
   omega
 have h := hr.mid n L.length cap hn (Nat.le_refl _) hlc (Nat.le_refl _)
 rw [List.take_of_length_le (by rw [List.length_drop]; omega)] at h
 unfold sliced at h
 refine ⟨_, _, by rw [List.length_drop]; exact h, fun i hi W => ?_⟩
 subst hi
 rw [run_sliceAt_slice W 146 _ _ _ _ under_rows, run_slice_l W 146 ao L.length cap under_rows .i64 (n : Int) (by omega) (by omega), elem_rows, size_bytes, List.length_drop]
 rfl

theorem cutL_front (w : World) (ao : Option Addr) (L : List (List UInt8)) (m cap : Nat) (hm : m = L.length) (hr : RdL w (.slice ao m cap) L) (n : Nat) (hn : n <= L.length) :
   RdL w (.slice ao n cap) (L.take n) ∧ ∀ i : Int, i = (n : Int) -> ∀ W, (Instr.sliceAt 146 (.slice ao m cap) none (some (.int .i64 i)) none).run Tryz.prog W = .ok (.slice ao n cap) W := by
 subst hm
 have hlc : L.length <= cap := by
   obtain ⟨a, c, e, h, -⟩ := hr
   simp only [Value.slice.injEq] at e
   omega
 refine ⟨hr.front n hn, fun i hi W => ?_⟩
 subst hi
 rw [run_sliceAt_slice W 146 _ _ _ _ under_rows, run_slice_h W 146 ao L.length cap under_rows .i64 (n : Int) (by omega) (by omega), elem_rows, size_bytes]
 show Result.ok (sliced ao 0 n cap 1) W = _
 unfold sliced
 have e : (if cap = 0 then ao else ao.map (·.add (0 * 1))) = ao := by
   split
   · rfl
   · cases ao <;> simp [Addr.add]
 rw [e, Nat.sub_zero, Nat.sub_zero]

theorem readH_ne {d : List UInt8} {x : Int} (h : readH d = .error x) : x ≠ 0 := by
 intro hx
 rw [hx] at h
 unfold readH at h
 simp only at h
 repeat' split at h
 all_goals simp at h

def RecoveredG (w : World) (b : List UInt8) (e : Ending) (w' : World) : Prop :=
 ∃ vl, e = .returned (.tuple #[.agg #[.int .i64 (recS8 b).1.kind, .int .i64 (recS8 b).1.first, vl], .int .i64 ((recS8 b).2.1 : Nat), .bool (recS8 b).2.2]) ∧ RdR w' vl (recS8 b).1.recs ∧ Below w.heap.size w w'

theorem RecoveredG.fail {w w' : World} {b : List UInt8} (h : recS8 b = (zeroG, 0, false)) (hb : Below w.heap.size w w') : RecoveredG w b (.returned (.tuple #[.agg #[.int .i64 0, .int .i64 0, .slice none 0 0], .int .i64 0, .bool false])) w' := by
 refine ⟨.slice none 0 0, ?_, ?_, hb⟩
 · rw [h]
   rfl
 · rw [h]
   exact RdR.nil _

theorem walkB_count (v : Nat) (first : Int) : ∀ (B : List (List UInt8)) (acc : List Rec) (last : Nat), (walkB v first B acc last).2.1 <= B.length
 | [], acc, last => by rw [walkB]; simp
 | d :: ds, acc, last => by
   rw [walkB_step, List.length_cons]
   cases readBk v d (first + acc.length) with
   | none => simp
   | some r =>
     simp only
     split
     · simp
     split
     · simp
     have ih := walkB_count v first ds (acc ++ r) r.length
     simp only
     omega

theorem framesOf_take (L : List (List UInt8)) (c : Nat) : (framesOf (L.take c)).length <= (framesOf L).length := by
 have h := flatten_take_len (L.map frameOf) c
 rw [flatten_frames, <- List.map_take, flatten_frames] at h
 exact h

theorem recS8_walk {b : List UInt8} (h : (wholeF b).1 ≠ []) : recS8 b = match readH ((wholeF b).1.headD []) with
   | .error _ => (zeroG, 0, false)
   | .ok (v, k, f) => ((walkL (wholeF b).1 v k f).1, (framesOf ((wholeF b).1.take (walkL (wholeF b).1 v k f).2.1)).length, true) := by
 unfold recS8 recL8
 rw [if_neg h]
 cases readH ((wholeF b).1.headD []) <;> rfl

theorem Rd.drewN {w : World} {v : Value} {l : List UInt8} (h : Rd w v l) (n : Nat) : Rd (w.drewN n) v l := h.below (below_drewN (Below.refl _ w) n) (Nat.le_refl _)

theorem cuts3 (w : World) (v : Value) (l : List UInt8) (hr : Rd w v l) (K N : Int) (k n : Nat) (hk : K = k) (hn : N = n) (h : k + n + 4 <= l.length) :
   ∃ v1 v2 v3, (∀ q, (Instr.sliceAt 53 v none (some (.int .i64 (K + N))) (some (.int .i64 (K + N)))).run Tryz.prog (w.drewN q) = .ok v1 (w.drewN q)) ∧
     (∀ q, (Instr.sliceAt 53 v (some (.int .i64 K)) (some (.int .i64 (K + N))) (some (.int .i64 (K + N)))).run Tryz.prog (w.drewN q) = .ok v2 (w.drewN q)) ∧
     (∀ q, (Instr.sliceAt 53 v (some (.int .i64 (K + N))) (some (.int .i64 (K + N + 4))) (some (.int .i64 (K + N + 4)))).run Tryz.prog (w.drewN q) = .ok v3 (w.drewN q)) ∧
     Rd w v1 (l.take (k + n)) ∧ Rd w v2 ((l.drop k).take n) ∧ Rd w v3 ((l.drop (k + n)).take 4) := by
 have h0 := hr
 obtain ⟨ao, cap, rfl, hlc, _⟩ := hr
 have e1 : (K + N).toNat = k + n := by omega
 have e2 : K.toNat = k := by omega
 have e3 : (K + N + 4).toNat = k + n + 4 := by omega
 refine ⟨sliced ao 0 (k + n) (k + n) 1, sliced ao k (k + n) (k + n) 1, sliced ao (k + n) (k + n + 4) (k + n + 4) 1, ?_, ?_, ?_, ?_, ?_, ?_⟩
 · intro q
   rw [run_sliceAt_slice _ 53 _ _ _ _ under_bytes, run_slice_hm _ 53 ao l.length cap under_bytes .i64 .i64 (K + N) (K + N) (by omega) (by omega) (by omega), elem_bytes, size_u8, e1]
   rfl
 · intro q
   rw [run_sliceAt_slice _ 53 _ _ _ _ under_bytes, run_slice_lhm _ 53 ao l.length cap under_bytes .i64 .i64 .i64 K (K + N) (K + N) (by omega) (by omega) (by omega) (by omega), elem_bytes, size_u8, e1, e2]
   rfl
 · intro q
   rw [run_sliceAt_slice _ 53 _ _ _ _ under_bytes, run_slice_lhm _ 53 ao l.length cap under_bytes .i64 .i64 .i64 (K + N) (K + N + 4) (K + N + 4) (by omega) (by omega) (by omega) (by omega), elem_bytes, size_u8, e1, e3]
   rfl
 · have := h0.mid 0 (k + n) (k + n) (by omega) (by omega) (by omega) (by omega)
   simpa using this
 · have := h0.mid k (k + n) (k + n) (by omega) (by omega) (by omega) (by omega)
   rwa [show k + n - k = n by omega] at this
 · have := h0.mid (k + n) (k + n + 4) (k + n + 4) (by omega) (by omega) (by omega) (by omega)
   rwa [show k + n + 4 - (k + n) = 4 by omega] at this

theorem wpQuiet_cut {ops : Array Oper} {C : World -> Prop} {Q : Act -> Prop} {rest : List Oper} {o : Oper} {a : Act} {w : World} (hg : o.guard = none) (x : Operand) (lo hi mx : Option Operand)
   (ho : o.op = .slice 53 x lo hi mx) (hC : ∀ w', C w' -> ∃ q, w' = w.drewN q) (v : Value)
   (hrun : ∀ q, (Instr.sliceAt 53 (a.eval x) (lo.map a.eval) (hi.map a.eval) (mx.map a.eval)).run Tryz.prog (w.drewN q) = .ok v (w.drewN q))
   (h : wpQuiet Tryz.prog ops C Q rest (a.put o.dst v)) : wpQuiet Tryz.prog ops C Q (o :: rest) a :=
 wpQuiet_step fun _ hK => by
   rw [if_pos (by simp [Region.wanted, hg])]
   refine ⟨v, fun w' hw' => ?_, hK _ h⟩
   obtain ⟨q, rfl⟩ := hC w' hw'
   unfold Oper.quietAt execOp
   simp only [ho, hrun, Sem.run_bind, Sem.run_pure, Result.andThen_ok, Oper.quietUpon, and_self]

set_option maxRecDepth 100000 in
set_option maxHeartbeats 1000000 in
theorem decode_any (v : Value) (l : List UInt8) (w : World) (hr : Rd w v l) :
   Calls Tryz.prog 202 #[v] w fun e w' => Decoded w l e w' := by
 have HR := hide hr
 have HO := hide (cut_any v l w hr)
 have HG := hide (get_any v l w hr)
 obtain ⟨ao, cap, rfl, hlc, hcm, hn0, hao⟩ := hr
 clear hn0 hao
 have hml : (l.length : Int) <= 9223372036854775807 := by unfold maxLen at hcm; omega
 have HLC := hide hlc
 have HCM := hide hcm
 clear hlc hcm
 by_cases c1 : isOpen l
 · have HE := hide (decF_1 c1)
   have HD : Hid (decide (isOpen l) = true) := decide_eq_true c1
   rw [HD.out] at HO
   clear c1 HG
   go_enter Tryz.func202, Tryz.ntmps202
   go_wp2_with fail
   refine HO.out.mono ?_
   rintro e w1 ⟨rfl, rfl⟩
   clear HO
   go_wp2
   go_ret3
   exact Decoded.refused HE.out
 have HD : Hid (decide (isOpen l) = false) := decide_eq_false c1
 rw [HD.out] at HO
 have C1 := hide c1
 clear c1
 have hg1 := dec62_cases l
 obtain ⟨n, hn⟩ : ∃ n, n = (dec62 l).1 := ⟨_, rfl⟩
 obtain ⟨k, hk⟩ : ∃ k, k = (dec62 l).2 := ⟨_, rfl⟩
 rw [<- hn, <- hk] at hg1 HG
 have HN := hide hn
 have HK := hide hk
 have hk9 := dec62_nine l
 have hbd : (n : Int) < 4611686018427387904 ∧ (k : Int) <= l.length ∧ (k : Int) <= 9 := by
   rw [<- hk] at hk9
   rcases hg1 with h | h
   · have h1 : n = 0 := by rw [hn, h]
     have h2 : k = 0 := by rw [hk, h]
     omega
   · omega
 clear hk9
 obtain ⟨N, hNn⟩ : ∃ N : Int, N = (n : Int) := ⟨_, rfl⟩
 obtain ⟨K, hKk⟩ : ∃ K : Int, K = (k : Int) := ⟨_, rfl⟩
 rw [<- hNn, <- hKk] at hbd HG
 obtain ⟨hn62, hkl, hk9⟩ := hbd
 have hN0 : 0 <= N := by omega
 have hK0 : 0 <= K := by omega
 have HNN := hide hNn
 have HKK := hide hKk
 clear hNn hKk
 clear hg1 hn hk
 by_cases c2 : K = 0
 · have HE := hide (decF_2 C1.out (by rw [<- HK.out]; have := HKK.out; omega))
   subst c2
   go_enter Tryz.func202, Tryz.ntmps202
   go_wp2_with fail
   refine HO.out.mono ?_
   rintro e w1 ⟨rfl, rfl⟩
   clear HO
   go_wp2_with fail
   refine HG.out.mono ?_
   rintro e w1 ⟨rfl, rfl⟩
   clear HG
   go_wp2
   go_ret3
   exact Decoded.refused HE.out
 have ez : (K == 0) = false := beq_eq_false_iff_ne.2 c2
 have hk1 : 1 <= K := by omega
 have C2 := hide (show (dec62 l).2 ≠ 0 by rw [<- HK.out]; have := HKK.out; omega)
 clear c2
 by_cases c3 : 1048576 < N
 · have HE := hide (decF_3 C1.out C2.out (by rw [<- HN.out]; have := HNN.out; omega))
   go_enter Tryz.func202, Tryz.ntmps202
   go_wp2_with fail
   refine HO.out.mono ?_
   rintro e w1 ⟨rfl, rfl⟩
   clear HO
   go_wp2_with fail
   refine HG.out.mono ?_
   rintro e w1 ⟨rfl, rfl⟩
   clear HG
   go_wp2
   go_ret3
   exact Decoded.refused HE.out
 have C3 := hide (show ¬ 1048576 < (dec62 l).1 by rw [<- HN.out]; have := HNN.out; omega)
 by_cases c4 : (l.length : Int) < K + N + 4
 · have HE := hide (decF_4 C1.out C2.out C3.out (by rw [<- HN.out, <- HK.out]; have := HNN.out; have := HKK.out; omega))
   go_enter Tryz.func202, Tryz.ntmps202
   go_wp2_with fail
   refine HO.out.mono ?_
   rintro e w1 ⟨rfl, rfl⟩
   clear HO
   go_wp2_with fail
   refine HG.out.mono ?_
   rintro e w1 ⟨rfl, rfl⟩
   clear HG
   go_wp2
   go_ret3
   exact Decoded.refused HE.out
 have C4 := hide (show ¬ l.length < (dec62 l).2 + 4 + (dec62 l).1 by rw [<- HN.out, <- HK.out]; have := HNN.out; have := HKK.out; omega)
 have HS : Hid (∀ v w, Rd w v (l.take (k + n)) -> Calls Tryz.prog 140 #[v] w fun e w' => e = .returned (.int .u32 (crcMore 0 (l.take (k + n)) : Nat)) ∧ Below w.heap.size w w') := fun v w h => sum_any v _ w h
 have HF : Hid (∀ v w, Rd w v ((l.drop (k + n)).take 4) -> Calls Tryz.prog 164 #[v] w fun e w' => e = .returned (.int .u64 (Lib.leNat ((l.drop (k + n)).take 4) : Nat)) ∧ w' = w) := by
   intro v w h
   have := fixed_any v _ w h
   rwa [List.take_of_length_le (by simp; omega)] at this
 have HE5 : Hid (Lib.leNat ((l.drop (k + n)).take 4) ≠ crcMore 0 (l.take (k + n)) -> decF l = ([], 0, 4)) := fun h => by
   rw [HN.out, HK.out] at h
   exact decF_5 C1.out C2.out C3.out C4.out h
 have HE6 : Hid (Lib.leNat ((l.drop (k + n)).take 4) = crcMore 0 (l.take (k + n)) -> decF l = ((l.drop k).take n, k + 4 + n, 0)) := fun h => by
   rw [HN.out, HK.out] at h ⊢
   exact decF_6 C1.out C2.out C3.out C4.out h
 have hs := crc_lt (l.take (k + n))
 have hq : Lib.leNat ((l.drop (k + n)).take 4) < 4294967296 := by
   have h1 := leNat_lt256 ((l.drop (k + n)).take 4)
   have e4 : ((l.drop (k + n)).take 4).length = 4 := by have := HNN.out; have := HKK.out; simp; omega
   rw [e4] at h1
   exact h1
 generalize crcMore 0 (l.take (k + n)) = s at *
 generalize Lib.leNat ((l.drop (k + n)).take 4) = q at *
 obtain ⟨S, hS⟩ : ∃ S : Int, S = (s : Int) := ⟨_, rfl⟩
 obtain ⟨T, hT⟩ : ∃ T : Int, T = (q : Int) := ⟨_, rfl⟩
 rw [<- hS] at HS
 rw [<- hT] at HF
 have hS0 : 0 <= S := by omega
 have hS1 : S < 4294967296 := by omega
 have HSS := hide hS
 have HTT := hide hT
 obtain ⟨v1, v2, v3, hc1, hc2, hc3, hr1, hr2, hr3⟩ := cuts3 w _ l HR.out K N k n HKK.out HNN.out (by have := HNN.out; have := HKK.out; omega)
 have HV1 := hide hr1
 have HV2 := hide hr2
 have HV3 := hide hr3
 have HC1 := hide hc1
 have HC2 := hide hc2
 have HC3 := hide hc3
 clear hr1 hr2 hr3 hc1 hc2 hc3
 clear hS hT hs hq
 go_enter Tryz.func202, Tryz.ntmps202
 go_wp2_with fail
 refine HO.out.mono ?_
 rintro e w1 ⟨rfl, rfl⟩
 clear HO
 go_wp2_with fail
 refine HG.out.mono ?_
 rintro e w1 ⟨rfl, rfl⟩
 clear HG
 go_wp2
 refine wp_region_quiet_lit (by kernel_rfl) (by kernel_rfl) ?_
 repeat (go_big_quiet_step (fail))
 refine wpQuiet_cut rfl _ _ _ _ rfl (fun _ h => h) v1 HC1.out ?_
 simp only [Act.put, List.setIfInBounds_toArray, List.set_cons_succ, List.set_cons_zero]
 repeat (go_big_quiet_step (fail))
 refine wpQuiet_cut rfl _ _ _ _ rfl (fun _ h => h) v2 HC2.out ?_
 simp only [Act.put, List.setIfInBounds_toArray, List.set_cons_succ, List.set_cons_zero]
 repeat (go_big_quiet_step (fail))
 refine wpQuiet_cut rfl _ _ _ _ rfl (fun _ h => h) v3 HC3.out ?_
 simp only [Act.put, List.setIfInBounds_toArray, List.set_cons_succ, List.set_cons_zero]
 repeat (go_big_quiet_step (fail))
 refine wpQuiet_nil ?_
 rintro _ ⟨nq, rfl⟩
 have HBQ := hide (below_drewN (Below.refl w1.heap.size w1) nq)
 have HQ1 := hide (HV1.out.drewN nq)
 have HQ2 := hide (HV2.out.drewN nq)
 have HQ3 := hide (HV3.out.drewN nq)
 clear HV1 HV2 HV3 HC1 HC2 HC3
 go_wp2_with fail
 refine (HF.out _ _ HQ3.out).mono ?_
 rintro e w2 ⟨rfl, rfl⟩
 clear HF HQ3
 go_wp2_with fail
 refine (HS.out _ _ HQ1.out).mono ?_
 rintro e w2 ⟨rfl, hb2⟩
 have HB2 := hide (HBQ.out.trans hb2)
 have HQ4 := hide (HQ2.out.below hb2 (Nat.le_refl _))
 clear HS HQ1 HQ2 hb2 HBQ
 by_cases c5 : T = S
 · have hne : (T != S) = false := by rw [bne_eq_false_iff_eq]; exact c5
   have HE := hide (HE6.out (by have := HSS.out; have := HTT.out; omega))
   clear c5 HE5 HE6
   have HLL := hide (show ((l.drop k).take n).length <= 1048576 by have := HNN.out; simp; omega)
   have HC := hide (clone_any _ _ w2 HQ4.out (by have := HLL.out; omega))
   generalize (l.drop k).take n = x at *
   go_wp2_with fail
   refine HC.out.mono ?_
   rintro e w4 ⟨v4, rfl, ho4, hb4⟩
   have hs2 := HB2.out.size
   have HO4 := hide (ho4.mono hs2)
   have HB4 := hide (HB2.out.trans (hb4.mono hs2))
   clear ho4 hb4 HC
   go_wp2
   go_ret3
   refine ⟨v4, ?_, by rw [HE.out]; exact HO4.out, HB4.out⟩
   rw [HE.out]
   exact ret_tup3 (by show K + N + 4 = ((k + 4 + n : Nat) : Int); have := HNN.out; have := HKK.out; omega) rfl
 · have hne : (T != S) = true := by rw [bne_iff_ne]; exact c5
   have HE := hide (HE5.out (by have := HSS.out; have := HTT.out; omega))
   clear c5 HE5 HE6
   go_wp2
   go_ret3
   refine ⟨.slice none 0 0, ?_, ?_, HB2.out⟩
   · rw [HE.out]; rfl
   · rw [HE.out]; exact Own.nil _ _

set_option maxRecDepth 100000

set_option maxHeartbeats 1000000 in
theorem begin_any (v : Value) (l : List UInt8) (w : World) (hr : Rd w v l) (hlim : l.length <= 1000000) :
   Calls Tryz.prog 162 #[v] w fun e w' => ∃ v', e = .returned (.tuple #[v', .int .i64 ((wholeF l).2.1 : Nat), .int .i64 ((wholeF l).2.2 : Nat)]) ∧ OwnL w' w.heap.size v' (wholeF l).1 ∧ Below w.heap.size w w' := by
 have HR := hide hr
 obtain ⟨ao, cap, rfl, hlc, hcm, hn0, hao⟩ := hr
 clear hn0 hao hlc hcm
 have HD := hide (fun v k w h => decode_any v (l.drop k) w h)
 go_enter Tryz.func162, Tryz.ntmps162
 go_wp2
 go_loopw [5, 6] (fun vl at' wr => ∃ (A : Nat) (L : List (List UInt8)), at' = .int .i64 (A : Int) ∧ Hid (Upto l A L) ∧ Hid (OwnL wr w.heap.size vl L) ∧ Hid (Below w.heap.size w wr)) (fun _ at' _ => l.length - (intOf at').toNat)
 case atStart => exact ⟨0, [], rfl, Upto.start l, OwnL.nil _ _, Below.refl _ _⟩
 case round =>
   obtain ⟨A, L, rfl, hu, ho, hb⟩ := hrel
   have hAl := hu.out.2.2
   by_cases hlt : A < l.length
   · have HC : Hid (∃ v', (Instr.sliceAt 53 (.slice ao l.length cap) (some (.int .i64 (A : Int))) none none).run Tryz.prog wr = .ok v' wr ∧ Rd wr v' (l.drop A)) := by
       have := run_cut_l wr _ l (HR.out.below hb.out (Nat.le_refl _)) .i64 (A : Int) (by omega) (by omega)
       rwa [Int.toNat_natCast] at this
     have hsw := hb.out.size
     go_wp2_with (refine wpList_cut _ rfl _ _ _ _ rfl _ HC.out ?_)
     intro v1 hr1
     have HV1 := hide hr1
     clear hr1 HC
     go_wp2_with fail
     refine (HD.out _ A _ HV1.out).mono ?_
     rintro e w2 ⟨v2, rfl, ho2, hb2⟩
     have HO2 := hide (ho2.mono hsw)
     have HL2 := hide (ho.out.below hb2 (Nat.le_refl _))
     have HB2 := hide (hb.out.trans (hb2.mono hsw))
     have hs2 := HB2.out.size
     clear ho2 hb2 HV1
     have H5 := hide (fun h => decF_five (l := l.drop A) h)
     have hle := decF_le (l.drop A)
     rw [List.length_drop] at hle
     by_cases he : (decF (l.drop A)).2.2 = 0
     · have HU := hide (hu.out.step hlt he)
       have h5 := H5.out he
       have hLl := hu.out.2.1
       rw [he]
       generalize (decF (l.drop A)).2.1 = m at *
       generalize (decF (l.drop A)).1 = x at *
       clear he H5
       obtain ⟨a2, c2, rfl, _⟩ := HO2.out.rd
       go_wp2_with (at_builtin; refine wpList_append_snoc _ rfl _ _ rfl w.heap.size _ L rfl HL2.out _ x rfl HO2.out (by omega) hs2 ?_)
       intro v3 w3 ho3 hb3
       have HO3 := hide ho3
       have HB3 := hide (HB2.out.trans hb3)
       clear ho3 hb3
       go_wp2
       go_roundw
       case rel => exact ⟨A + m, L ++ [x], by go_num, HU, HO3, HB3⟩
       case measure => simp [intOf]; omega
     · have HE := hide (hu.out.stop hlt he)
       clear H5
       generalize (decF (l.drop A)).2.2 = c at *
       have hne : ((c : Int) != 0) = true := by rw [bne_iff_ne]; omega
       clear he
       go_wp2
       go_ret3
       refine ⟨_, ?_, by rw [HE.out]; exact HL2.out, HB2.out⟩
       rw [HE.out]
       rfl
   · have HE := hide (hu.out.whole hlt)
     go_wp2
     go_ret3
     refine ⟨_, ?_, by rw [HE.out]; exact ho.out, hb.out⟩
     rw [HE.out]
     rfl

set_option maxHeartbeats 1000000 in
theorem all_any (v : Value) (l : List UInt8) (w : World) (hr : Rd w v l) (hlim : l.length <= 1000000) :
   Calls Tryz.prog 118 #[v] w fun e w' => ∃ v', e = .returned (.tuple #[v', .int .i64 ((allF l).2 : Nat)]) ∧ RdL w' v' (allF l).1 ∧ Below w.heap.size w w' := by
 have HW := hide (begin_any v l w hr hlim)
 clear hr
 go_enter Tryz.func118, Tryz.ntmps118
 go_wp2_with fail
 refine HW.out.mono ?_
 rintro e w2 ⟨v2, rfl, ho2, hb2⟩
 have HO2 := hide ho2
 have HB2 := hide hb2
 clear ho2 hb2 HW
 by_cases he : (wholeF l).2.2 = 0
 · have HE : Hid (allF l = ((wholeF l).1, 0)) := if_pos he
   rw [he]
   clear he
   generalize (wholeF l).2.1 = m at *
   go_wp2
   go_ret2
   refine ⟨_, ?_, by rw [HE.out]; exact HO2.out.rd, HB2.out⟩
   rw [HE.out]
   rfl
 · have HE : Hid (allF l = ([], (wholeF l).2.2)) := if_neg he
   generalize (wholeF l).2.1 = m at *
   generalize (wholeF l).2.2 = c at *
   have hne : ((c : Int) != 0) = true := by rw [bne_iff_ne]; omega
   clear he
   go_wp2
   go_ret2
   refine ⟨_, ?_, by rw [HE.out]; exact RdL.nil _, HB2.out⟩
   rw [HE.out]
   rfl

set_option maxHeartbeats 1000000 in
theorem isVersionG_any (v : Int) (B : Bool) (hB : B = decide (1 <= v ∧ v <= 3)) (w : World) :
   Calls Tryz.prog 191 #[.int .i64 v] w fun e w' => e = .returned (.bool B) ∧ w' = w := by
 subst hB
 by_cases h : 1 <= v ∧ v <= 3
 · rw [decide_eq_true h]
   obtain ⟨h1, h3⟩ := h
   go_enter Tryz.func191, Tryz.ntmps191
   go_wp2
   go_ret
   exact ⟨rfl, rfl⟩
 · rw [decide_eq_false h]
   by_cases h1 : 1 <= v
   · have h3 : ¬ v <= 3 := fun h3 => h ⟨h1, h3⟩
     clear h
     go_enter Tryz.func191, Tryz.ntmps191
     go_wp2
     go_ret
     exact ⟨rfl, rfl⟩
   · clear h
     go_enter Tryz.func191, Tryz.ntmps191
     go_wp2
     go_ret
     exact ⟨rfl, rfl⟩

set_option maxHeartbeats 2000000 in
theorem fault_any (v k f : Int) (w : World) :
   Calls Tryz.prog 141 #[.agg #[.int .i64 v, .int .i64 k, .int .i64 f]] w fun e w' => e = .returned (.int .i64 (headErr v k f)) ∧ Below w.heap.size w w' := by
 have HB0 : Hid (∀ X, Below w.heap.size w (w.alloc X)) := fun X => (Below.refl _ _).alloc (Nat.le_refl _) X
 by_cases hv : 1 <= v ∧ v <= 3
 case neg =>
   have HV := hide (isVersionG_any v false (by rw [decide_eq_false hv]))
   have HE : Hid (headErr v k f = 6) := hide (if_neg hv)
   rw [HE.out]
   clear hv
   go_enter Tryz.func141, Tryz.ntmps141
   go_wp2_with fail
   refine (HV.out _).mono ?_
   rintro e W1 ⟨rfl, rfl⟩
   go_wp2
   go_ret
   exact ⟨rfl, HB0.out _⟩
 have HV := hide (isVersionG_any v true (by rw [decide_eq_true hv]))
 by_cases h : HeadOk k f
 case neg =>
   have HE : Hid (headErr v k f = 1) := hide (by unfold headErr; rw [if_pos hv, if_neg h])
   rw [HE.out]
   clear hv
   by_cases h1 : k < 0
   · clear h
     go_enter Tryz.func141, Tryz.ntmps141
     go_wp2_with fail
     refine (HV.out _).mono ?_
     rintro e W1 ⟨rfl, rfl⟩
     go_wp2
     go_ret
     exact ⟨rfl, HB0.out _⟩
   by_cases h2 : 6 <= k
   · clear h
     go_enter Tryz.func141, Tryz.ntmps141
     go_wp2_with fail
     refine (HV.out _).mono ?_
     rintro e W1 ⟨rfl, rfl⟩
     go_wp2
     go_ret
     exact ⟨rfl, HB0.out _⟩
   by_cases h3 : f < 0
   · clear h
     go_enter Tryz.func141, Tryz.ntmps141
     go_wp2_with fail
     refine (HV.out _).mono ?_
     rintro e W1 ⟨rfl, rfl⟩
     go_wp2
     go_ret
     exact ⟨rfl, HB0.out _⟩
   have h4 : 4611686018427387904 <= f := by
     by_cases h4 : f < 4611686018427387904
     · exact absurd ⟨by omega, by omega, by omega, h4⟩ h
     · omega
   clear h
   go_enter Tryz.func141, Tryz.ntmps141
   go_wp2_with fail
   refine (HV.out _).mono ?_
   rintro e W1 ⟨rfl, rfl⟩
   go_wp2
   go_ret
   exact ⟨rfl, HB0.out _⟩
 have HE : Hid (headErr v k f = 0) := hide (by unfold headErr; rw [if_pos hv, if_pos h])
 rw [HE.out]
 obtain ⟨k0, k1, f0, f1⟩ := h
 have hk0 : ¬ k < 0 := by omega
 have hk1 : ¬ 6 <= k := by omega
 have hf0 : ¬ f < 0 := by omega
 have hf1 : ¬ 4611686018427387904 <= f := by omega
 clear hv
 go_enter Tryz.func141, Tryz.ntmps141
 go_wp2_with fail
 refine (HV.out _).mono ?_
 rintro e W1 ⟨rfl, rfl⟩
 go_wp2
 go_ret
 exact ⟨rfl, HB0.out _⟩

theorem framesOf_snoc {L : List (List UInt8)} {k : Nat} (h : k < L.length) : framesOf (L.take (k + 1)) = framesOf (L.take k) ++ frameOf (L.getD k []) := by
 rw [takeL_snoc h, framesOf_app]
 simp [framesOf]

theorem sizeF_frame {d : List UInt8} (h : d.length <= 1048576) : sizeF (d.length : Int) = (frameOf d).length := by
 unfold sizeF
 rw [if_pos ⟨by omega, by omega⟩, frameOf_length, Int.toNat_natCast]
 omega

set_option maxHeartbeats 2000000 in
theorem sizeG_any (v : Value) (L : List (List UInt8)) (w : World) (hr : RdL w v L) (hL : ∀ x ∈ L, x.length <= 1048576) (hlim : (framesOf L).length <= 10000000) :
   Calls Tryz.prog 209 #[v] w fun e w' => e = .returned (.int .i64 ((framesOf L).length : Nat)) ∧ Below w.heap.size w w' := by
 have HR := hide hr
 obtain ⟨ao, cap, rfl, hlc, hcm, -⟩ := hr
 have hml : (L.length : Int) <= 9223372036854775807 := by unfold maxLen at hcm; omega
 have HAT := hide (fun k hk => HR.out.at k hk)
 obtain ⟨Z, hZ⟩ : ∃ Z : Nat -> Nat, Z = fun k => (framesOf (L.take k)).length := ⟨_, rfl⟩
 have HZ0 : Hid (Z 0 = 0) := hide (by rw [hZ]; simp [framesOf])
 have HZS : Hid (∀ k, k < L.length -> Z (k + 1) = Z k + sizeF ((L.getD k []).length : Int)) := hide (fun k hk => by
   rw [hZ]
   simp only
   rw [framesOf_snoc hk, List.length_append, sizeF_frame (hL _ (getD_mem hk))])
 have HZL : Hid (∀ k, Z k <= 10000000) := hide (fun k => by
   rw [hZ]
   have := framesOf_take L k
   simp only
   omega)
 have HZA : Hid ((framesOf L).length = Z L.length) := hide (by rw [hZ]; simp only; rw [List.take_length])
 have HSZ : Hid (∀ k, k < L.length -> ∀ W, Calls Tryz.prog 138 #[.int .i64 ((L.getD k []).length : Int)] W fun e w' => e = .returned (.int .i64 (sizeF ((L.getD k []).length : Int) : Nat)) ∧ Below W.heap.size W w') := hide (fun k hk W => by
   have := hL _ (getD_mem hk)
   exact size_any _ W (by omega) (by omega))
 rw [HZA.out]
 clear hZ hlc hcm hL hlim
 go_enter Tryz.func209, Tryz.ntmps209
 go_wp2
 go_loopw [3, 8] (fun vs vi wr => ∃ k : Nat, vi = .int .i64 (k : Int) ∧ vs = .int .i64 (Z k : Int) ∧ k <= L.length ∧ Hid (Below w.heap.size w wr)) (fun _ vi _ => L.length - (intOf vi).toNat)
 case atStart => exact ⟨0, rfl, by rw [HZ0.out]; rfl, Nat.zero_le _, Below.refl _ _⟩
 case round =>
   obtain ⟨k, rfl, rfl, hk, hB⟩ := hrel
   by_cases hlt : k < L.length
   case neg =>
     have e : k = L.length := by omega
     subst e
     go_wp2
     go_ret
     exact ⟨rfl, hB.out⟩
   obtain ⟨b, off, x, rfl, hx, hxr⟩ := HAT.out k hlt
   have hck := hx wr hB.out
   have HSk := hide (HZS.out k hlt)
   have HCk := hide (HSZ.out k hlt)
   have hz1 := HZL.out (k + 1)
   rw [HSk.out] at hz1
   obtain ⟨a9, c9, rfl, -⟩ := hxr wr hB.out
   obtain ⟨ZK, hZK⟩ : ∃ ZK, ZK = Z (k + 1) := ⟨_, rfl⟩
   rw [<- hZK] at HSk
   have HZK := hide hZK
   generalize Z k = z at *
   generalize sizeF ((L.getD k []).length : Int) = sz at *
   generalize (L.getD k []).length = n at *
   clear hx hxr hZK
   go_wp2_with fail
   refine (HCk.out _).mono ?_
   rintro e W2 ⟨rfl, hb2⟩
   have HB2 := hide (hB.out.trans (hb2.mono hB.out.size))
   clear hb2
   go_wp2
   go_roundw
   case rel => exact ⟨k + 1, by go_num, by rw [<- HZK.out, HSk.out]; go_num, by omega, HB2⟩
   case measure => simp [intOf]; omega

theorem index_head0 (x0 x1 x2 : Int) (W : World) : (Instr.index 190 (.agg #[.int .i64 x0, .int .i64 x1, .int .i64 x2]) (.int .i64 0)).run Tryz.prog W = .ok (.int .i64 x0) W := by
 simp [Instr.index, run_underlying Tryz.underlying190, asIntOf, go_sem]

theorem index_head1 (x0 x1 x2 : Int) (W : World) : (Instr.index 190 (.agg #[.int .i64 x0, .int .i64 x1, .int .i64 x2]) (.int .i64 1)).run Tryz.prog W = .ok (.int .i64 x1) W := by
 simp [Instr.index, run_underlying Tryz.underlying190, asIntOf, go_sem]

theorem index_head2 (x0 x1 x2 : Int) (W : World) : (Instr.index 190 (.agg #[.int .i64 x0, .int .i64 x1, .int .i64 x2]) (.int .i64 2)).run Tryz.prog W = .ok (.int .i64 x2) W := by
 simp [Instr.index, run_underlying Tryz.underlying190, asIntOf, go_sem]

set_option maxHeartbeats 2000000 in
theorem headData_any (v k f : Int) (hv : 1 <= v ∧ v <= 3) (h : HeadOk k f) (w : World) :
   Calls Tryz.prog 142 #[.agg #[.int .i64 v, .int .i64 k, .int .i64 f]] w fun e w' => ∃ v', e = .returned v' ∧ Own w' w.heap.size v' (headS v.toNat k.toNat f.toNat) ∧ Below w.heap.size w w' := by
 obtain ⟨k0, k1, f0, f1⟩ := h
 have HPU : Hid (∀ v1 l n W, Rd W v1 l -> l.length <= 1000 -> 0 <= n -> n < 4611686018427387904 -> Calls Tryz.prog 136 #[v1, .int .i64 n] W fun e w' => ∃ v', e = .returned v' ∧ Own w' W.heap.size v' (l ++ Lib.uvarint n.toNat) ∧ Below W.heap.size W w') := fun v1 l n W h hl n0 n1 => by
   have h := put_any v1 l n W h (by omega)
   rw [putOf_small n0 n1] at h
   exact h
 have q1 : (Lib.uvarint v.toNat).length <= 10 := uv10' (by omega)
 have q2 : (Lib.uvarint k.toNat).length <= 10 := uv10' (by omega)
 have HE : Hid (headS v.toNat k.toNat f.toNat = (([108] ++ Lib.uvarint v.toNat) ++ Lib.uvarint k.toNat) ++ Lib.uvarint f.toNat) := hide (by unfold headS; simp)
 have HP1 := hide (fun v1 W h => HPU.out v1 [108] v W h (by simp) (by omega) (by omega))
 have HP2 := hide (fun v1 W h => HPU.out v1 ([108] ++ Lib.uvarint v.toNat) k W h (by simp only [List.length_append, List.length_singleton]; omega) k0 (by omega))
 have HP3 := hide (fun v1 W h => HPU.out v1 (([108] ++ Lib.uvarint v.toNat) ++ Lib.uvarint k.toNat) f W h (by simp only [List.length_append, List.length_singleton]; omega) f0 f1)
 rw [<- HE.out] at HP3
 clear HE HPU
 obtain ⟨PK, hPK⟩ : ∃ PK : Nat -> List UInt8, PK = fun q => if q = 0 then [108] else if q = 1 then [108] ++ Lib.uvarint v.toNat else if q = 2 then [108] ++ Lib.uvarint v.toNat ++ Lib.uvarint k.toNat else headS v.toNat k.toNat f.toNat := ⟨_, rfl⟩
 have e0 : [108] = PK 0 := by rw [hPK]; rfl
 have e1 : [108] ++ Lib.uvarint v.toNat = PK 1 := by rw [hPK]; rfl
 have e2 : [108] ++ Lib.uvarint v.toNat ++ Lib.uvarint k.toNat = PK 2 := by rw [hPK]; rfl
 have e3 : headS v.toNat k.toNat f.toNat = PK 3 := by rw [hPK]; rfl
 have HR0 : Hid (∀ W : World, Rd (W.alloc (.cells #[.int .u8 108] 5)) (.slice (some ⟨W.heap.size, 0, none⟩) 1 1) (PK 0)) := hide (fun W => by rw [<- e0]; exact Rd.byte W 108)
 rw [e2, e3] at HP3
 rw [e2, e1] at HP2
 rw [e1, e0] at HP1
 rw [e3]
 clear e0 e1 e2 e3 hPK q1 q2
 have HB0 : Hid (∀ X Y, Below w.heap.size w ((w.alloc X).alloc Y)) := fun X Y => Below.allocs (Below.allocs (Below.refl _ _) X) Y
 go_enter Tryz.func142, Tryz.ntmps142
 go_wp2
 go_loopw [3, 8] (fun vo vi wr => ∃ q : Nat, vi = .int .i64 (q : Int) ∧ q <= 3 ∧ Hid (Rd wr vo (PK q)) ∧ Hid (1 <= q -> Own wr w.heap.size vo (PK q)) ∧ Hid (Below w.heap.size w wr)) (fun _ vi _ => 3 - (intOf vi).toNat)
 case atStart =>
   refine ⟨0, rfl, Nat.zero_le _, ?_, fun h => absurd h (by decide), HB0.out _ _⟩
   have h := HR0.out (w.alloc (.cells #[.int .i64 v, .int .i64 k, .int .i64 f] 190))
   have e : (w.alloc (.cells #[.int .i64 v, .int .i64 k, .int .i64 f] 190)).heap.size = w.heap.size + 1 := by simp
   rw [e] at h
   exact h
 case round =>
   obtain ⟨q, rfl, hq, hR, hO, hB⟩ := hrel
   by_cases hlt : q < 3
   case neg =>
     have e : q = 3 := by omega
     subst e
     have HO3 := hide (hO.out (by decide))
     go_wp2
     go_ret
     exact ⟨_, rfl, HO3.out, hB.out⟩
   have h3 : q = 0 ∨ q = 1 ∨ q = 2 := by omega
   rcases h3 with rfl | rfl | rfl
   · have hix := index_head0 v k f
     go_wp2_with fail
     refine (HP1.out _ _ hR.out).mono ?_
     rintro e W2 ⟨v2, rfl, ho2, hb2⟩
     have HR2 := hide ho2.rd
     have HO2 := hide (ho2.mono hB.out.size)
     have HB2 := hide (hB.out.trans (hb2.mono hB.out.size))
     clear ho2 hb2
     go_wp2
     go_roundw
     case rel => exact ⟨1, rfl, by omega, HR2, hide (fun _ => HO2.out), HB2⟩
     case measure => simp [intOf]
   · have hix := index_head1 v k f
     go_wp2_with fail
     refine (HP2.out _ _ hR.out).mono ?_
     rintro e W2 ⟨v2, rfl, ho2, hb2⟩
     have HR2 := hide ho2.rd
     have HO2 := hide (ho2.mono hB.out.size)
     have HB2 := hide (hB.out.trans (hb2.mono hB.out.size))
     clear ho2 hb2
     go_wp2
     go_roundw
     case rel => exact ⟨2, rfl, by omega, HR2, hide (fun _ => HO2.out), HB2⟩
     case measure => simp [intOf]
   · have hix := index_head2 v k f
     go_wp2_with fail
     refine (HP3.out _ _ hR.out).mono ?_
     rintro e W2 ⟨v2, rfl, ho2, hb2⟩
     have HR2 := hide ho2.rd
     have HO2 := hide (ho2.mono hB.out.size)
     have HB2 := hide (hB.out.trans (hb2.mono hB.out.size))
     clear ho2 hb2
     go_wp2
     go_roundw
     case rel => exact ⟨3, rfl, by omega, HR2, hide (fun _ => HO2.out), HB2⟩
     case measure => simp [intOf]

set_option maxHeartbeats 2000000 in
theorem headG_any (v k f : Int) (w : World) :
   Calls Tryz.prog 100 #[.int .i64 v, .int .i64 k, .int .i64 f] w fun e w' => Headed w v k f e w' := by
 unfold Headed
 have HB0 : Hid (∀ X, Below w.heap.size w (w.alloc X)) := fun X => (Below.refl _ _).alloc (Nat.le_refl _) X
 have X1 : Hid (∀ cs, (w.alloc (.cells cs 190)).heap[w.heap.size]? = some (.cells cs 190 (0, 0))) := fun cs => heap_alloc_new w _
 have HFA := hide (fun W => fault_any v k f W)
 by_cases hok : (1 <= v ∧ v <= 3) ∧ HeadOk k f
 case neg =>
   have he : headErr v k f ≠ 0 ∧ headL v k f = [] := by
     unfold headErr headL
     by_cases hv : 1 <= v ∧ v <= 3
     · rw [if_pos hv, if_pos hv, if_neg (fun h => hok ⟨hv, h⟩), if_neg (fun h => hok ⟨hv, h⟩)]
       exact ⟨by decide, rfl⟩
     · rw [if_neg hv, if_neg hv]
       exact ⟨by decide, rfl⟩
   obtain ⟨he, hl⟩ := he
   rw [hl]
   generalize headErr v k f = er at *
   have he' : (er != 0) = true := by rw [bne_iff_ne]; exact he
   clear hok he hl
   go_enter Tryz.func100, Tryz.ntmps100
   go_wp2_with fail
   refine (HFA.out _).mono ?_
   rintro e W1 ⟨rfl, hb1⟩
   have HB1 := hide ((HB0.out _).trans (hb1.mono (HB0.out _).size))
   clear hb1
   go_wp2
   go_ret2
   exact ⟨_, rfl, Own.nil _ _, HB1.out⟩
 obtain ⟨hv, hh⟩ := hok
 have HDA := hide (fun W => headData_any v k f hv hh W)
 have he : headErr v k f = 0 := by unfold headErr; rw [if_pos hv, if_pos hh]
 have hl : headL v k f = frameOf (headS v.toNat k.toNat f.toNat) := by unfold headL; rw [if_pos hv, if_pos hh]
 have hlen : (headS v.toNat k.toNat f.toNat).length <= 40 := headS_len (by omega) (by have := hh.2.1; omega) (by have := hh.2.2.2; omega)
 have HEN := hide (fun v1 W (h : Rd W v1 (headS v.toNat k.toNat f.toNat)) => encode_any v1 _ W h)
 rw [frame_ok (by omega)] at HEN
 rw [he] at HFA ⊢
 rw [hl]
 generalize headS v.toNat k.toNat f.toNat = H at *
 generalize frameOf H = F at *
 clear hv hh he hl
 go_enter Tryz.func100, Tryz.ntmps100
 go_wp2_with fail
 refine (HFA.out _).mono ?_
 rintro e W1 ⟨rfl, hb1⟩
 have HX1 := hide ((hb1.block _ (by simp)).trans (X1.out _))
 have HB1 := hide ((HB0.out _).trans (hb1.mono (HB0.out _).size))
 clear hb1 HFA
 have c0 : W1.cell? ⟨w.heap.size, 0, none⟩ = some (.int .i64 v) := cell_of_row _ _ 0 _ _ _ HX1.out
 have c1 : W1.cell? ⟨w.heap.size, 1, none⟩ = some (.int .i64 k) := cell_of_row _ _ 1 _ _ _ HX1.out
 have c2 : W1.cell? ⟨w.heap.size, 2, none⟩ = some (.int .i64 f) := cell_of_row _ _ 2 _ _ _ HX1.out
 go_wp2_with fail
 refine (HDA.out _).mono ?_
 rintro e W2 ⟨v2, rfl, ho2, hb2⟩
 have HR2 := hide ho2.rd
 have HB2 := hide (HB1.out.trans (hb2.mono HB1.out.size))
 clear ho2 hb2 c0 c1 c2 HX1
 go_wp2_with fail
 refine (HEN.out _ _ HR2.out).mono ?_
 rintro e W3 ⟨v3, rfl, ho3, hb3⟩
 have HO3 := hide (ho3.mono HB2.out.size)
 have HB3 := hide (HB2.out.trans (hb3.mono HB2.out.size))
 clear ho3 hb3
 go_wp2
 go_ret2
 exact ⟨_, rfl, HO3.out, HB3.out⟩

def Bhd (w : World) (b : Nat) (x y z : Int) : Prop := w.heap[b]? = some (.cells #[.int .i64 x, .int .i64 y, .int .i64 z] 190 (0, 0))

theorem Bhd.lt {w : World} {b : Nat} {x y z : Int} (h : Bhd w b x y z) : b < w.heap.size := (Array.getElem?_eq_some_iff.1 h).1

theorem Bhd.below {w w' : World} {b B : Nat} {x y z : Int} (h : Bhd w b x y z) (hb : Below B w w') (hB : b < B) : Bhd w' b x y z := (hb.block b hB).trans h

theorem Bhd.cell {w : World} {b : Nat} {x y z : Int} (h : Bhd w b x y z) : (w.cell? ⟨b, 0, none⟩ = some (.int .i64 x) ∧ w.cell? ⟨b, 1, none⟩ = some (.int .i64 y) ∧ w.cell? ⟨b, 2, none⟩ = some (.int .i64 z)) ∧ ∀ j, w.frozen? ⟨b, j, none⟩ = false :=
 ⟨⟨cell_of_row w b 0 _ _ _ h, cell_of_row w b 1 _ _ _ h, cell_of_row w b 2 _ _ _ h⟩, fun j => frozen_of_row w b j _ _ h⟩

theorem Bhd.set0 {w : World} {b : Nat} {x y z : Int} (h : Bhd w b x y z) (n : Int) : Bhd (w.setCell ⟨b, 0, none⟩ (.int .i64 n)) b n y z := by
 have h2 := heap_setCell_same w b 0 _ _ (.int .i64 n) h
 unfold Bhd
 simpa using h2

theorem Bhd.set1 {w : World} {b : Nat} {x y z : Int} (h : Bhd w b x y z) (n : Int) : Bhd (w.setCell ⟨b, 1, none⟩ (.int .i64 n)) b x n z := by
 have h2 := heap_setCell_same w b 1 _ _ (.int .i64 n) h
 unfold Bhd
 simpa using h2

theorem Bhd.set2 {w : World} {b : Nat} {x y z : Int} (h : Bhd w b x y z) (n : Int) : Bhd (w.setCell ⟨b, 2, none⟩ (.int .i64 n)) b x y n := by
 have h2 := heap_setCell_same w b 2 _ _ (.int .i64 n) h
 unfold Bhd
 simpa using h2

theorem Bhd.other {w : World} {b c : Nat} {x y z : Int} (h : Bhd w b x y z) (hc : b ≠ c) (j : Nat) (u : Value) : Bhd (w.setCell ⟨c, j, none⟩ u) b x y z := (Below.heap_setCell _ _ _ _ hc).trans h

def errH : Except Int (Nat × Nat × Nat) -> Int
 | .error e => e
 | .ok _ => 0

def HeadRead (w : World) (d : List UInt8) (e : Ending) (w' : World) : Prop :=
 ∃ x y z : Int, e = .returned (.tuple #[.agg #[.int .i64 x, .int .i64 y, .int .i64 z], .int .i64 (errH (readH d))]) ∧ (∀ v k f, readH d = .ok (v, k, f) -> x = (v : Int) ∧ y = (k : Int) ∧ z = (f : Int)) ∧ Below w.heap.size w w'

theorem HeadRead.form {w w' : World} {d : List UInt8} (h : readH d = .error 3) (hb : Below w.heap.size w w') : HeadRead w d (.returned (.tuple #[.agg #[.int .i64 0, .int .i64 0, .int .i64 0], .int .i64 3])) w' :=
 ⟨0, 0, 0, by rw [h]; rfl, (fun v k f hh => by rw [h] at hh; cases hh), hb⟩

set_option maxHeartbeats 4000000 in
theorem readHeadG_any (v : Value) (d : List UInt8) (w : World) (hr : Rd w v d) :
   Calls Tryz.prog 206 #[v] w fun e w' => HeadRead w d e w' := by
 have HR := hide hr
 obtain ⟨ao, cap, rfl, hlc, hcm, -, hao⟩ := hr
 have hml : (d.length : Int) <= 9223372036854775807 := by unfold maxLen at hcm; omega
 have HB0 : Hid (∀ X, Below w.heap.size w (w.alloc X)) := fun X => (Below.refl _ _).alloc (Nat.le_refl _) X
 by_cases h0 : d.length = 0
 · have e : d = [] := List.eq_nil_of_length_eq_zero h0
   have HE : Hid (readH d = .error 3) := hide (readH_none (.inl e))
   have h0' : ((d.length : Int) == 0) = true := by rw [beq_iff_eq]; omega
   clear e h0 hao
   go_enter Tryz.func206, Tryz.ntmps206
   go_wp2
   refine bodyPost_ret (v := .tuple #[.agg #[.int .i64 0, .int .i64 0, .int .i64 0], .int .i64 3]) (by simp [results, Tryz.results206, go_sem]) rfl ?_
   exact HeadRead.form HE.out (HB0.out _)
 have h0' : ((d.length : Int) == 0) = false := beq_eq_false_iff_ne.2 (by omega)
 have hpos : (0 : Int) < (d.length : Int) := by omega
 have hne : d ≠ [] := fun e => by rw [e] at h0; simp at h0
 rcases hao with he | ⟨b, off, rfl, hc⟩
 · exact absurd he hne
 have hc0 := hc 0 (by omega)
 have hbl : b < w.heap.size := World.block_lt_of_cell? w ⟨b, off + 0, none⟩ hc0
 have hck : ∀ X, (w.alloc X).cell? ⟨b, off, none⟩ = some (.int .u8 ((d.getD 0 0).toNat : Nat)) := fun X => ((HB0.out X).cell (p := ⟨b, off, none⟩) hbl).trans hc0
 clear hc hc0 hlc hcm
 by_cases hm : d.getD 0 0 = 108
 case neg =>
   have HE : Hid (readH d = .error 3) := hide (readH_none (.inr hm))
   have hm' : ((((d.getD 0 0).toNat : Nat) : Int) != 108) = true := by
     rw [bne_iff_ne]
     intro h
     apply hm
     apply UInt8.toNat_inj.1
     have : (108 : UInt8).toNat = 108 := rfl
     omega
   clear hm hne h0
   generalize (((d.getD 0 0).toNat : Nat) : Int) = c0 at *
   go_enter Tryz.func206, Tryz.ntmps206
   go_wp2
   refine bodyPost_ret (v := .tuple #[.agg #[.int .i64 0, .int .i64 0, .int .i64 0], .int .i64 3]) (by simp [results, Tryz.results206, go_sem]) rfl ?_
   exact HeadRead.form HE.out (HB0.out _)
 have hm' : ((((d.getD 0 0).toNat : Nat) : Int) != 108) = false := by
   rw [hm]
   rfl
 have hgd : ¬ (d = [] ∨ d.getD 0 0 ≠ 108) := by rintro (h | h); exact hne h; exact h hm
 generalize (((d.getD 0 0).toNat : Nat) : Int) = c0 at *
 obtain ⟨a1, c1, hr1, hcut1⟩ := cut_at w _ d cap HR.out 1 (by omega)
 obtain ⟨⟨n0, k0⟩, hd1⟩ : ∃ x, dec62 (d.drop 1) = x := ⟨_, rfl⟩
 obtain ⟨⟨n1, k1⟩, hd2⟩ : ∃ x, dec62 (d.drop (1 + k0)) = x := ⟨_, rfl⟩
 obtain ⟨⟨n2, k2⟩, hd3⟩ : ∃ x, dec62 (d.drop (1 + k0 + k1)) = x := ⟨_, rfl⟩
 have hl1 := dec62_le (d.drop 1)
 have hl2 := dec62_le (d.drop (1 + k0))
 have hl3 := dec62_le (d.drop (1 + k0 + k1))
 have q2 := dec62_lt (d.drop (1 + k0 + k1))
 rw [hd1, List.length_drop] at hl1
 rw [hd2, List.length_drop] at hl2
 rw [hd3, List.length_drop] at hl3
 rw [hd3] at q2
 simp only at hl1 hl2 hl3 q2
 have HE := hide (readH_some hgd hd1 hd2 hd3)
 have k1' := hcut1 1 rfl
 -- the three rounds
 have HR1 := hide hr1
 have HF := hide (fun W => fault_any (n0 : Int) (n1 : Int) (n2 : Int) W)
 have X1 : Hid (∀ x y z Y, Bhd ((w.alloc (.cells #[.int .i64 x, .int .i64 y, .int .i64 z] 190)).alloc Y) w.heap.size x y z) := fun x y z Y => (Below.heap_alloc _ _ _ (by simp)).trans (heap_alloc_new w _)
 have X2 : Hid (∀ X x y z, Bhd ((w.alloc X).alloc (.cells #[.int .i64 x, .int .i64 y, .int .i64 z] 190)) (w.heap.size + 1) x y z) := fun X x y z => two_new w X _
 have HB2 : Hid (∀ X Y, Below w.heap.size w ((w.alloc X).alloc Y)) := fun X Y => Below.allocs (Below.allocs (Below.refl _ _) X) Y
 clear hr1 hcut1 hm hne h0
 obtain ⟨PP, hPP⟩ : ∃ PP : Nat -> Nat, PP = fun q => if q = 0 then 1 else if q = 1 then 1 + k0 else if q = 2 then 1 + k0 + k1 else 1 + k0 + k1 + k2 := ⟨_, rfl⟩
 have p0 : PP 0 = 1 := by rw [hPP]; rfl
 have p1 : PP 1 = 1 + k0 := by rw [hPP]; rfl
 have p2 : PP 2 = 1 + k0 + k1 := by rw [hPP]; rfl
 have p3 : PP 3 = 1 + k0 + k1 + k2 := by rw [hPP]; rfl
 have HP : Hid (PP 0 = 1 ∧ PP 1 = 1 + k0 ∧ PP 2 = 1 + k0 + k1 ∧ PP 3 = 1 + k0 + k1 + k2) := hide ⟨p0, p1, p2, p3⟩
 obtain ⟨LL, hLL⟩ : ∃ LL : Nat -> Nat, LL = fun q => (d.drop (PP q)).length := ⟨_, rfl⟩
 have HLL : Hid (∀ q, LL q = (d.drop (PP q)).length) := hide (fun q => by rw [hLL])
 have HR0 : Hid (Rd w (.slice a1 (LL 0) c1) (d.drop (PP 0))) := hide (by rw [HLL.out, p0]; exact HR1.out)
 have k1'' : ∀ W, (Instr.sliceAt 53 (.slice (some ⟨b, off, none⟩) d.length cap) (some (.int .i64 1)) none none).run Tryz.prog W = .ok (.slice a1 (LL 0) c1) W := by rw [HLL.out, p0]; exact k1'
 have HST : Hid (∀ (a : Option Addr) (c q k : Nat), PP (q + 1) = PP q + k -> PP q + k <= d.length -> Rd w (.slice a (LL q) c) (d.drop (PP q)) -> ∃ a' c', Rd w (.slice a' (LL (q + 1)) c') (d.drop (PP (q + 1))) ∧ ∀ i : Int, i = (k : Int) -> ∀ W, (Instr.sliceAt 53 (.slice a (LL q) c) (some (.int .i64 i)) none none).run Tryz.prog W = .ok (.slice a' (LL (q + 1)) c') W) := hide (fun a c q k hp hk hrp => by
   rw [HLL.out q] at hrp
   obtain ⟨a', c', h1, h2⟩ := cut_at w a (d.drop (PP q)) c hrp k (by rw [List.length_drop]; omega)
   rw [List.drop_drop, <- hp, <- HLL.out (q + 1)] at h1
   rw [List.drop_drop, <- hp, <- HLL.out q, <- HLL.out (q + 1)] at h2
   exact ⟨a', c', h1, h2⟩)
 have HG : Hid (∀ W a c q n k, Below w.heap.size w W -> Rd w (.slice a (LL q) c) (d.drop (PP q)) -> dec62 (d.drop (PP q)) = (n, k) -> Calls Tryz.prog 171 #[.slice a (LL q) c] W fun e w' => e = .returned (.tuple #[.int .i64 (n : Int), .int .i64 (k : Int)]) ∧ w' = W) := hide (fun W a c q n k hb h hd => by
   have hx := get_any _ _ W (h.below hb (Nat.le_refl _))
   rw [hd] at hx
   exact hx)
 have HD : Hid (dec62 (d.drop 1) = (n0, k0) ∧ dec62 (d.drop (1 + k0)) = (n1, k1) ∧ dec62 (d.drop (1 + k0 + k1)) = (n2, k2)) := hide ⟨hd1, hd2, hd3⟩
 have HL : Hid (k0 <= d.length - 1 ∧ k1 <= d.length - (1 + k0) ∧ k2 <= d.length - (1 + k0 + k1)) := hide ⟨hl1, hl2, hl3⟩
 clear hPP hLL p0 p1 p2 p3 HR1 k1' hd1 hd2 hd3 hl1 hl2 hl3 hgd
 go_enter Tryz.func206, Tryz.ntmps206
 go_wp2
 go_loopw [5, 21] (fun vl vi wr => ∃ (q : Nat) (a : Option Addr) (c : Nat) (x y z : Int), vi = .int .i64 (q : Int) ∧ vl = .slice a (LL q) c ∧ q <= 3 ∧ Hid (Rd w (.slice a (LL q) c) (d.drop (PP q))) ∧ Hid (Bhd wr (w.heap.size + 1) x y z) ∧ Hid (Bhd wr w.heap.size 0 0 0) ∧ Hid ((1 <= q -> x = (n0 : Int) ∧ k0 ≠ 0) ∧ (2 <= q -> y = (n1 : Int) ∧ k1 ≠ 0) ∧ (3 <= q -> z = (n2 : Int) ∧ k2 ≠ 0)) ∧ Hid (Below w.heap.size w wr)) (fun _ vi _ => 3 - (intOf vi).toNat)
 case atStart => exact ⟨0, a1, c1, 0, 0, 0, rfl, rfl, Nat.zero_le _, HR0, hide (X2.out _ _ _ _), hide (X1.out _ _ _ _), hide ⟨fun h => absurd h (by decide), fun h => absurd h (by decide), fun h => absurd h (by decide)⟩, hide (HB2.out _ _)⟩
 case round =>
   obtain ⟨q, a, c, x, y, z, rfl, rfl, hq, hRq, hH, hZ, hI, hB⟩ := hrel
   clear HR0 k1'' hck
   by_cases hlt : q < 3
   case neg =>
     have e : q = 3 := by omega
     subst e
     have h1 := hI.out.1 (by decide)
     have h2 := hI.out.2.1 (by decide)
     have h3 := hI.out.2.2 (by decide)
     obtain ⟨rfl, h1'⟩ := h1
     obtain ⟨rfl, h2'⟩ := h2
     obtain ⟨rfl, h3'⟩ := h3
     by_cases hend : 1 + k0 + k1 + k2 = d.length
     case neg =>
       have HE3 : Hid (readH d = .error 3) := hide (by rw [HE.out, if_pos (.inr (.inr (.inr hend)))])
       have hlen : LL 3 ≠ 0 := by
         rw [HLL.out, HP.out.2.2.2, List.length_drop]
         have := HL.out
         omega
       have hgt : (0 : Int) < (LL 3 : Int) := by omega
       have hgt' : 0 < LL 3 := by omega
       have hgd' : decide (0 < LL 3) = true := decide_eq_true hgt'
       generalize LL 3 = ln at *
       obtain ⟨⟨r0, r1, r2⟩, rf⟩ := hZ.out.cell
       have f0 := rf 0
       have f1 := rf 1
       have f2 := rf 2
       clear rf hlen h1' h2' h3' hend HE
       go_wp2
       refine bodyPost_ret (v := .tuple #[.agg #[.int .i64 0, .int .i64 0, .int .i64 0], .int .i64 3]) (by simp [results, Tryz.results206, go_sem, r0, r1, r2]) rfl ?_
       exact HeadRead.form HE3.out (belowThree hB.out _ (Nat.le_refl _) _ _ _)
     have hlen : LL 3 = 0 := by
       rw [HLL.out, HP.out.2.2.2, List.length_drop]
       omega
     have HER : Hid (headErr (n0 : Int) (n1 : Int) (n2 : Int) = errH (readH d)) := hide (by
       rw [HE.out, if_neg (by omega)]
       unfold headErr
       by_cases g1 : n0 < 1 ∨ 3 < n0
       · rw [if_neg (by omega), if_pos g1]; rfl
       · rw [if_pos (by omega), if_neg g1]
         by_cases g2 : 6 <= n1
         · rw [if_pos g2, if_neg (fun h => by have := h.2.1; omega)]; rfl
         · rw [if_neg g2, if_pos ⟨by omega, by omega, by omega, by omega⟩]; rfl)
     have HOK : Hid (∀ v k f, readH d = .ok (v, k, f) -> (n0 : Int) = (v : Int) ∧ (n1 : Int) = (k : Int) ∧ (n2 : Int) = (f : Int)) := hide (fun v k f hh => by
       rw [HE.out] at hh
       split at hh
       · cases hh
       split at hh
       · cases hh
       split at hh
       · cases hh
       simp only [Except.ok.injEq, Prod.mk.injEq] at hh
       obtain ⟨rfl, rfl, rfl⟩ := hh
       exact ⟨rfl, rfl, rfl⟩)
     rw [HER.out] at HF
     rw [hlen] at hRq ⊢
     obtain ⟨er, her⟩ : ∃ er, er = errH (readH d) := ⟨_, rfl⟩
     rw [<- her] at HF
     have HEQ := hide her
     clear her
     obtain ⟨⟨r0, r1, r2⟩, rf⟩ := hZ.out.cell
     have f0 := rf 0
     have f1 := rf 1
     have f2 := rf 2
     obtain ⟨⟨g0, g1, g2⟩, -⟩ := hH.out.cell
     have HKA : Hid (∀ W, Below wr.heap.size wr W -> W.cell? ⟨w.heap.size + 1, 0, none⟩ = some (.int .i64 (n0 : Int)) ∧ W.cell? ⟨w.heap.size + 1, 1, none⟩ = some (.int .i64 (n1 : Int)) ∧ W.cell? ⟨w.heap.size + 1, 2, none⟩ = some (.int .i64 (n2 : Int))) := hide (fun W hb => (hH.out.below hb hH.out.lt).cell.1)
     have HBD : Hid (Below wr.heap.size wr wr.drew) := hide ((Below.refl _ _).drew)
     have HK0 := hide (HKA.out _ HBD.out)
     generalize (n0 : Int) = N0 at *
     generalize (n1 : Int) = N1 at *
     generalize (n2 : Int) = N2 at *
     clear rf h1' h2' h3' hend HE HER HL HD hI hlen HP
     have hne0 : w.heap.size ≠ w.heap.size + 1 := by omega
     have HZS : Hid (Bhd (((wr.setCell ⟨w.heap.size, 0, none⟩ (.int .i64 N0)).setCell ⟨w.heap.size, 1, none⟩ (.int .i64 N1)).setCell ⟨w.heap.size, 2, none⟩ (.int .i64 N2)) w.heap.size N0 N1 N2) := hide (((hZ.out.set0 N0).set1 N1).set2 N2)
     have HHS : Hid (Bhd (((wr.setCell ⟨w.heap.size, 0, none⟩ (.int .i64 N0)).setCell ⟨w.heap.size, 1, none⟩ (.int .i64 N1)).setCell ⟨w.heap.size, 2, none⟩ (.int .i64 N2)) (w.heap.size + 1) N0 N1 N2) := hide (((hH.out.other (by omega) 0 _).other (by omega) 1 _).other (by omega) 2 _)
     have HBS : Hid (Below w.heap.size w (((wr.setCell ⟨w.heap.size, 0, none⟩ (.int .i64 N0)).setCell ⟨w.heap.size, 1, none⟩ (.int .i64 N1)).setCell ⟨w.heap.size, 2, none⟩ (.int .i64 N2)).drew) := hide (belowThree hB.out _ (Nat.le_refl _) _ _ _).drew
     go_upto_region 15 with fail
     go_region_held2 (fun w' => w'.cell? ⟨w.heap.size + 1, 0, none⟩ = some (.int .i64 N0) ∧ w'.cell? ⟨w.heap.size + 1, 1, none⟩ = some (.int .i64 N1) ∧ w'.cell? ⟨w.heap.size + 1, 2, none⟩ = some (.int .i64 N2)) (first | exact HK0.out | exact HK2.out | exact HK3.out | exact HHS.out.cell.1 | go_keep)
       (first
         | (go_at_call 141; refine (HF.out wr.drew).mono ?_; rintro e W2 ⟨rfl, hb2⟩; have HB2 := hide (HBD.out.trans hb2); have HK2 := hide (HKA.out W2 HB2.out); have HE2 := hide (hB.out.trans (HB2.out.mono hB.out.size)); obtain ⟨⟨s0, s1, s2⟩, sf⟩ := (hZ.out.below HB2.out hZ.out.lt).cell; have sf0 := sf 0; have sf1 := sf 1; have sf2 := sf 2; obtain ⟨⟨t0, t1, t2⟩, -⟩ := (hH.out.below HB2.out hH.out.lt).cell; clear hb2 sf)
         | (go_at_call 141; refine (HF.out (((wr.setCell ⟨w.heap.size, 0, none⟩ (.int .i64 N0)).setCell ⟨w.heap.size, 1, none⟩ (.int .i64 N1)).setCell ⟨w.heap.size, 2, none⟩ (.int .i64 N2)).drew).mono ?_; rintro e W3 ⟨rfl, hb3⟩; have HK3 := hide (HHS.out.below hb3 HHS.out.lt).cell.1; have HE3 := hide (HBS.out.trans (hb3.mono HBS.out.size)); obtain ⟨⟨s0, s1, s2⟩, -⟩ := (HZS.out.below hb3 HZS.out.lt).cell; clear hb3))
     all_goals
       go_wp2
       refine bodyPost_ret (v := .tuple #[.agg #[.int .i64 N0, .int .i64 N1, .int .i64 N2], .int .i64 er]) (by simp [results, Tryz.results206, go_sem, s0, s1, s2]) rfl ⟨N0, N1, N2, by rw [HEQ.out], HOK.out, ?_⟩
       first
       | exact HE3.out
       | exact (belowThree HE2.out _ (Nat.le_refl _) _ _ _)
       | exact (belowThree HE2.out _ (Nat.le_refl _) _ _ _).drew
   have h3 : q = 0 ∨ q = 1 ∨ q = 2 := by omega
   rcases h3 with rfl | rfl | rfl
   · have HGQ := hide (HG.out wr a c 0 n0 k0 hB.out hRq.out (by rw [HP.out.1]; exact HD.out.1))
     by_cases hk : k0 = 0
     · have HE3 : Hid (readH d = .error 3) := hide (by rw [HE.out, if_pos (.inl hk)])
       have hk' : ((k0 : Int) == 0) = true := by rw [beq_iff_eq]; omega
       obtain ⟨⟨r0, r1, r2⟩, rf⟩ := hZ.out.cell
       have f0 := rf 0
       have f1 := rf 1
       have f2 := rf 2
       clear rf hk HE HL
       go_wp2_with fail
       refine HGQ.out.mono ?_
       rintro e W2 ⟨rfl, hw2⟩
       rw [hw2]
       go_wp2
       refine bodyPost_ret (v := .tuple #[.agg #[.int .i64 0, .int .i64 0, .int .i64 0], .int .i64 3]) (by simp [results, Tryz.results206, go_sem, r0, r1, r2]) rfl ?_
       exact HeadRead.form HE3.out (belowThree hB.out _ (Nat.le_refl _) _ _ _)
     have hk' : ((k0 : Int) == 0) = false := beq_eq_false_iff_ne.2 (by omega)
     have HKQ := hide hk
     obtain ⟨a', c', hrn, hcut⟩ := HST.out a c 0 k0 (by rw [HP.out.2.1, HP.out.1]) (by rw [HP.out.1]; have := HL.out; omega) hRq.out
     have kc := hcut (k0 : Int) rfl
     have HRN := hide hrn
     obtain ⟨⟨g0, g1, g2⟩, gf⟩ := hH.out.cell
     have fq := gf 0
     have HHN := hide (hH.out.set0 (n0 : Int))
     have HZN := hide (hZ.out.other (show w.heap.size ≠ w.heap.size + 1 by omega) 0 (.int .i64 (n0 : Int)))
     have HBN := hide (hB.out.setCell (p := ⟨w.heap.size + 1, 0, none⟩) (show w.heap.size <= w.heap.size + 1 by omega) (.int .i64 (n0 : Int)))
     clear hk hcut hrn gf
     go_wp2_with fail
     refine HGQ.out.mono ?_
     rintro e W2 ⟨rfl, hw2⟩
     rw [hw2]
     clear hw2 W2
     go_wp2
     go_region
     all_goals
       go_wp2
       go_roundw
       case rel => exact ⟨1, a', c', (n0 : Int), y, z, rfl, rfl, by omega, HRN, HHN, HZN, hide ⟨fun _ => ⟨rfl, HKQ.out⟩, fun h => absurd h (by decide), fun h => absurd h (by decide)⟩, hide HBN.out.drew⟩
       case measure => simp [intOf]
   · have HGQ := hide (HG.out wr a c 1 n1 k1 hB.out hRq.out (by rw [HP.out.2.1]; exact HD.out.2.1))
     by_cases hk : k1 = 0
     · have HE3 : Hid (readH d = .error 3) := hide (by rw [HE.out, if_pos (.inr (.inl hk))])
       have hk' : ((k1 : Int) == 0) = true := by rw [beq_iff_eq]; omega
       obtain ⟨⟨r0, r1, r2⟩, rf⟩ := hZ.out.cell
       have f0 := rf 0
       have f1 := rf 1
       have f2 := rf 2
       clear rf hk HE HL
       go_wp2_with fail
       refine HGQ.out.mono ?_
       rintro e W2 ⟨rfl, hw2⟩
       rw [hw2]
       go_wp2
       refine bodyPost_ret (v := .tuple #[.agg #[.int .i64 0, .int .i64 0, .int .i64 0], .int .i64 3]) (by simp [results, Tryz.results206, go_sem, r0, r1, r2]) rfl ?_
       exact HeadRead.form HE3.out (belowThree hB.out _ (Nat.le_refl _) _ _ _)
     have hk' : ((k1 : Int) == 0) = false := beq_eq_false_iff_ne.2 (by omega)
     have HKQ := hide hk
     obtain ⟨a', c', hrn, hcut⟩ := HST.out a c 1 k1 (by rw [HP.out.2.2.1, HP.out.2.1]) (by rw [HP.out.2.1]; have := HL.out; omega) hRq.out
     have kc := hcut (k1 : Int) rfl
     have HRN := hide hrn
     obtain ⟨⟨g0, g1, g2⟩, gf⟩ := hH.out.cell
     have fq := gf 1
     have HHN := hide (hH.out.set1 (n1 : Int))
     have HZN := hide (hZ.out.other (show w.heap.size ≠ w.heap.size + 1 by omega) 1 (.int .i64 (n1 : Int)))
     have HBN := hide (hB.out.setCell (p := ⟨w.heap.size + 1, 1, none⟩) (show w.heap.size <= w.heap.size + 1 by omega) (.int .i64 (n1 : Int)))
     clear hk hcut hrn gf
     go_wp2_with fail
     refine HGQ.out.mono ?_
     rintro e W2 ⟨rfl, hw2⟩
     rw [hw2]
     clear hw2 W2
     go_wp2
     go_region
     all_goals
       go_wp2
       go_roundw
       case rel => exact ⟨2, a', c', x, (n1 : Int), z, rfl, rfl, by omega, HRN, HHN, HZN, hide ⟨fun _ => hI.out.1 (by decide), fun _ => ⟨rfl, HKQ.out⟩, fun h => absurd h (by decide)⟩, hide HBN.out.drew⟩
       case measure => simp [intOf]
   · have HGQ := hide (HG.out wr a c 2 n2 k2 hB.out hRq.out (by rw [HP.out.2.2.1]; exact HD.out.2.2))
     by_cases hk : k2 = 0
     · have HE3 : Hid (readH d = .error 3) := hide (by rw [HE.out, if_pos (.inr (.inr (.inl hk)))])
       have hk' : ((k2 : Int) == 0) = true := by rw [beq_iff_eq]; omega
       obtain ⟨⟨r0, r1, r2⟩, rf⟩ := hZ.out.cell
       have f0 := rf 0
       have f1 := rf 1
       have f2 := rf 2
       clear rf hk HE HL
       go_wp2_with fail
       refine HGQ.out.mono ?_
       rintro e W2 ⟨rfl, hw2⟩
       rw [hw2]
       go_wp2
       refine bodyPost_ret (v := .tuple #[.agg #[.int .i64 0, .int .i64 0, .int .i64 0], .int .i64 3]) (by simp [results, Tryz.results206, go_sem, r0, r1, r2]) rfl ?_
       exact HeadRead.form HE3.out (belowThree hB.out _ (Nat.le_refl _) _ _ _)
     have hk' : ((k2 : Int) == 0) = false := beq_eq_false_iff_ne.2 (by omega)
     have HKQ := hide hk
     obtain ⟨a', c', hrn, hcut⟩ := HST.out a c 2 k2 (by rw [HP.out.2.2.2, HP.out.2.2.1]) (by rw [HP.out.2.2.1]; have := HL.out; omega) hRq.out
     have kc := hcut (k2 : Int) rfl
     have HRN := hide hrn
     obtain ⟨⟨g0, g1, g2⟩, gf⟩ := hH.out.cell
     have fq := gf 2
     have HHN := hide (hH.out.set2 (n2 : Int))
     have HZN := hide (hZ.out.other (show w.heap.size ≠ w.heap.size + 1 by omega) 2 (.int .i64 (n2 : Int)))
     have HBN := hide (hB.out.setCell (p := ⟨w.heap.size + 1, 2, none⟩) (show w.heap.size <= w.heap.size + 1 by omega) (.int .i64 (n2 : Int)))
     clear hk hcut hrn gf
     go_wp2_with fail
     refine HGQ.out.mono ?_
     rintro e W2 ⟨rfl, hw2⟩
     rw [hw2]
     clear hw2 W2
     go_wp2
     go_region
     all_goals
       go_wp2
       go_roundw
       case rel => exact ⟨3, a', c', x, y, (n2 : Int), rfl, rfl, by omega, HRN, HHN, HZN, hide ⟨fun _ => hI.out.1 (by decide), fun _ => hI.out.2.1 (by decide), fun _ => ⟨rfl, HKQ.out⟩⟩, hide HBN.out.drew⟩
       case measure => simp [intOf]

theorem headSeg_any (v k f : Int) (a : Option Addr) (n c : Nat) (w : World) :
   Calls Tryz.prog 208 #[.agg #[.int .i64 v, .int .i64 k, .int .i64 f], .slice a n c] w fun e w' => e = .returned (.agg #[.int .i64 k, .int .i64 f, .slice a n c]) ∧ Below w.heap.size w w' := by
 have HB2 : Hid (∀ X Y, Below w.heap.size w ((w.alloc X).alloc Y)) := fun X Y => Below.allocs (Below.allocs (Below.refl _ _) X) Y
 go_enter Tryz.func208, Tryz.ntmps208
 go_wp2
 refine bodyPost_ret (v := .agg #[.int .i64 k, .int .i64 f, .slice a n c]) (by simp [results, Tryz.results208, go_sem]) rfl ⟨rfl, ?_⟩
 exact HB2.out _ _

def BlocksRead (w : World) (v f : Nat) (B : List (List UInt8)) (e : Ending) (w' : World) : Prop :=
 ∃ vl, e = .returned (.tuple #[vl, .int .i64 ((walkB v f B [] 16).2.1 : Int), .int .i64 (walkB v f B [] 16).2.2]) ∧ OwnR w' w.heap.size vl (walkB v f B [] 16).1 ∧ (∀ r ∈ (walkB v f B [] 16).1, RecOk r) ∧ Below w.heap.size w w'

theorem Bsg.set3 {w : World} {R : Nat} {a b c : Value} (h : Bsg w R #[a, b, c]) (x0 x1 x2 : Value) : Bsg (((w.setCell ⟨R, 0, none⟩ x0).setCell ⟨R, 1, none⟩ x1).setCell ⟨R, 2, none⟩ x2) R #[x0, x1, x2] := by
 have h0 := heap_setCell_same w R 0 _ _ x0 h
 have h1 := heap_setCell_same _ R 1 _ _ x1 h0
 have h2 := heap_setCell_same _ R 2 _ _ x2 h1
 unfold Bsg
 simpa using h2

theorem OwnL.set {w : World} {C : Nat} {v : Value} {L : List (List UInt8)} (h : OwnL w C v L) (R i : Nat) (hR : R < C) (x : Value) : OwnL (w.setCell ⟨R, i, none⟩ x) C v L := by
 obtain ⟨xs, h1, h2⟩ := h
 refine ⟨xs, ownsRow_setCell_below h1 hR x, fun j hj => ?_⟩
 obtain ⟨y, hy, ho⟩ := h2 j hj
 exact ⟨y, hy, ownsRow_setCell_below ho hR x⟩

set_option maxHeartbeats 1000000 in
theorem wholeO_any (v : Value) (l : List UInt8) (w : World) (hr : Rd w v l) (hlim : l.length <= 1000000) :
   Calls Tryz.prog 122 #[v] w fun e w' => ∃ v', e = .returned (.tuple #[v', .int .i64 ((wholeF l).2.1 : Nat)]) ∧ OwnL w' w.heap.size v' (wholeF l).1 ∧ Below w.heap.size w w' := by
 have HW := hide (begin_any v l w hr hlim)
 clear hr
 go_enter Tryz.func122, Tryz.ntmps122
 go_wp2_with fail
 refine HW.out.mono ?_
 rintro e w2 ⟨v2, rfl, ho2, hb2⟩
 have HO2 := hide ho2
 have HB2 := hide hb2
 clear ho2 hb2 HW
 obtain ⟨m, hm⟩ : ∃ m, m = (wholeF l).2.1 := ⟨_, rfl⟩
 have HM := hide hm
 rw [<- hm]
 clear hm
 generalize (wholeF l).2.2 = c at *
 go_wp2
 go_ret2
 exact ⟨_, by rw [HM.out]; rfl, HO2.out, HB2.out⟩

theorem readBlocks_none (v : Nat) (k f : Int) (vp : Value) (w : World) (hr : ∃ a c, vp = .slice a 0 c) :
   Calls Tryz.prog 207 #[.agg #[.int .i64 (v : Int), .int .i64 k, .int .i64 f], vp] w fun e w' => e = .returned (.tuple #[.slice none 0 0, .int .i64 0, .int .i64 0]) ∧ Below w.heap.size w w' := by
 obtain ⟨a, c, rfl⟩ := hr
 have HB0 : Hid (∀ X, Below w.heap.size w (w.alloc X)) := fun X => (Below.refl _ _).alloc (Nat.le_refl _) X
 generalize (v : Int) = V
 go_enter Tryz.func207, Tryz.ntmps207
 go_wp2
 go_loopw [7, 14] (fun vl vi wr => vl = .slice none 0 0 ∧ vi = .int .i64 0 ∧ Hid (Below w.heap.size w wr)) (fun _ _ _ => 0)
 case atStart => exact ⟨rfl, rfl, hide (HB0.out _)⟩
 case round =>
   obtain ⟨rfl, rfl, HB⟩ := hrel
   go_wp2
   refine bodyPost_ret (v := .tuple #[.slice none 0 0, .int .i64 0, .int .i64 0]) (by simp [results, Tryz.results207, go_sem]) rfl ?_
   exact ⟨rfl, HB.out⟩

set_option maxHeartbeats 8000000 in
theorem recoverOne_any (vb : Value) (b : List UInt8) (w : World) (hr : Rd w vb b) (hlim : b.length <= 100000) (hone : (wholeF b).1.tail = []) :
   Calls Tryz.prog 169 #[vb] w fun e w' => RecoveredG w b e w' := by
 have HB0 : Hid (∀ X, Below w.heap.size w (w.alloc X)) := fun X => (Below.refl _ _).alloc (Nat.le_refl _) X
 have X1 : Hid (∀ cs, Bsg (w.alloc (.cells cs 219)) w.heap.size cs) := fun cs => heap_alloc_new w _
 have HAL := hide (fun X => wholeO_any vb b (w.alloc X) (hr.below (HB0.out X) (Nat.le_refl _)) (by omega))
 obtain ⟨ab, cb, rfl, -⟩ := hr
 obtain ⟨hbd, hmany⟩ := wholeF_bounds b
 obtain ⟨hfr, -⟩ := wholeF_some _ b (Nat.le_refl _)
 have hfl : (framesOf (wholeF b).1).length <= 100000 := by
   rw [hfr, List.length_take]
   omega
 have HN0 := hide (fun h => recS8_walk (b := b) h)
 have HNN : Hid ((wholeF b).1 = [] -> recS8 b = (zeroG, 0, false)) := hide (fun h => by unfold recS8 recL8; rw [if_pos h])
 generalize (wholeF b).2.1 = tk at *
 generalize (wholeF b).1 = L at *
 have HON := hide hone
 clear hone hfr
 by_cases h0 : L.length = 0
 · have e : L = [] := List.eq_nil_of_length_eq_zero h0
   have HN := hide (HNN.out e)
   have h0' : ((L.length : Int) == 0) = true := by rw [beq_iff_eq]; omega
   clear HN0 HNN hbd hmany hfl h0 e
   go_enter Tryz.func169, Tryz.ntmps169
   go_wp2_with fail
   refine (HAL.out _).mono ?_
   rintro e W1 ⟨v1, rfl, ho1, hb1⟩
   have HX1 := hide ((X1.out _).below hb1 (Nat.le_refl _))
   have HB1 := hide ((HB0.out _).trans (hb1.mono (HB0.out _).size))
   obtain ⟨a1, c1, rfl, -⟩ := ho1.rd
   clear hb1 HAL
   obtain ⟨r0, f0⟩ := HX1.out.cell 0
   obtain ⟨r1, f1⟩ := HX1.out.cell 1
   obtain ⟨r2, f2⟩ := HX1.out.cell 2
   go_wp2
   refine bodyPost_ret (v := .tuple #[.agg #[.int .i64 0, .int .i64 0, .slice none 0 0], .int .i64 0, .bool false]) (by simp [results, Tryz.results169, go_sem, r0, r1, r2]) rfl ?_
   exact RecoveredG.fail HN.out (belowThree HB1.out _ (Nat.le_refl _) _ _ _)
 have hne : L ≠ [] := fun e => h0 (by rw [e]; rfl)
 have h0' : ((L.length : Int) == 0) = false := beq_eq_false_iff_ne.2 (by omega)
 have HN := hide (HN0.out hne)
 have hhd : L.getD 0 [] = L.headD [] := by cases L <;> rfl
 have HRB : Hid (∀ (v k f : Nat), 1 <= v -> v <= 3 -> f < 4611686018427387904 -> ∀ (vp : Value) (W : World), Below w.heap.size w W -> RdL W vp L.tail -> Calls Tryz.prog 207 #[.agg #[.int .i64 (v : Int), .int .i64 (k : Int), .int .i64 (f : Int)], vp] W fun e w' => BlocksRead W v f L.tail e w') := hide (fun v k f _ _ _ vp W _ h => by
   rw [HON.out] at h ⊢
   refine (readBlocks_none v k f vp W (by
     obtain ⟨a, c, e, -⟩ := h
     exact ⟨a, c, e⟩)).mono ?_
   rintro e w' ⟨rfl, hb⟩
   exact ⟨_, rfl, OwnR.nil _ _, (fun r hr => by cases hr), hb⟩)
 have HCNT : Hid (∀ v f, (walkB v f L.tail [] 16).2.1 + 1 <= L.length) := hide (fun v f => by
   have := walkB_count v f L.tail [] 16
   rw [List.length_tail] at this
   omega)
 have HSI := hide (fun c v1 W (h : RdL W v1 (L.take c)) => sizeG_any v1 (L.take c) W h (fun x hx => (hbd x (List.mem_of_mem_take hx)).1) (by have := framesOf_take L c; omega))
 have HRH := hide (fun v1 W (h : Rd W v1 (L.headD [])) => readHeadG_any v1 (L.headD []) W h)
 have HSG := hide (fun v k f a n c W => headSeg_any v k f a n c W)
 have hml : (L.length : Int) <= 100000 := by omega
 have hpos : (0 : Int) < (L.length : Int) := by omega
 unfold walkL at HN
 clear HN0 HNN hbd hfl hne hmany
 go_enter Tryz.func169, Tryz.ntmps169
 go_wp2_with fail
 refine (HAL.out _).mono ?_
 rintro e W1 ⟨v1, rfl, ho1, hb1⟩
 have HX1 := hide ((X1.out _).below hb1 (Nat.le_refl _))
 have HB1 := hide ((HB0.out _).trans (hb1.mono (HB0.out _).size))
 have HL1 := hide ho1.rd
 have HOL : Hid (OwnL W1 (w.heap.size + 1) v1 L) := hide (ho1.mono (by simp))
 obtain ⟨a1, c1, rfl, -⟩ := ho1.rd
 obtain ⟨b0, o0, x0, rfl, hx0, hxr0⟩ := HL1.out.at 0 (by omega)
 obtain ⟨am, cm, hrm, hcm⟩ := cutL_at W1 _ L L.length c1 rfl HL1.out 1 (by omega)
 have HCF := hide (fun q (hq : q <= L.length) => cutL_front W1 _ L L.length c1 rfl HL1.out q hq)
 rw [List.drop_one] at hrm hcm
 rw [hhd] at hxr0
 have km := hcm 1 rfl
 have HRM := hide hrm
 have hc0 := hx0 W1 (Below.refl _ _)
 have HX0 := hide (hxr0 W1 (Below.refl _ _))
 obtain ⟨a0, q0, hxe, -⟩ := hxr0 W1 (Below.refl _ _)
 subst hxe
 rw [Nat.add_zero] at hc0
 clear hb1 HAL hrm hcm hx0 hxr0 X1 HB0 hhd HL1
 generalize L.tail = B at *
 generalize L.headD [] = H at *
 generalize hHl : H.length = hl at *
 clear hHl
 go_wp2_with fail
 refine (HRH.out _ _ HX0.out).mono ?_
 rintro e W2 ⟨x, y, z, rfl, hxyz, hb2⟩
 have HXYZ := hide hxyz
 have HX2 := hide (HX1.out.below hb2 (Nat.le_refl _))
 have HB2 := hide (HB1.out.trans (hb2.mono HB1.out.size))
 have HB12 := hide hb2
 clear hxyz hb2 hc0 HX0 HX1 HRH
 obtain ⟨NA, hNA⟩ : ∃ N, N = W2.heap.size := ⟨_, rfl⟩
 obtain ⟨WA, hWA⟩ : ∃ V, V = W2.alloc (.cells #[.int .i64 x, .int .i64 y, .int .i64 z] 190) := ⟨_, rfl⟩
 have hbA : Below W2.heap.size W2 WA := by rw [hWA]; exact (Below.refl _ _).alloc (Nat.le_refl _) _
 have HHA : Hid (Bhd WA NA x y z) := hide (by rw [hWA, hNA]; exact heap_alloc_new W2 _)
 have HXA := hide (HX2.out.below hbA (Nat.le_refl _))
 have HBA := hide (HB2.out.trans (hbA.mono HB2.out.size))
 have HB1A := hide (HB12.out.trans (hbA.mono HB12.out.size))
 have hNA0 : w.heap.size < NA := by rw [hNA]; exact HX2.out.lt
 go_upto_region 5 with fail
 rw [<- hWA, <- hNA]
 clear hWA hNA hbA HX2 HB2 HB12
 cases hrd : readH H with
 | error ex =>
   have HN2 : Hid (recS8 b = (zeroG, 0, false)) := hide (by rw [HN.out, hrd])
   have hx := readH_ne hrd
   have hx' : (ex != 0) = true := by rw [bne_iff_ne]; exact hx
   have e9 : errH (Except.error ex : Except Int (Nat × Nat × Nat)) = ex := rfl
   obtain ⟨r0, f0⟩ := HXA.out.cell 0
   obtain ⟨r1, f1⟩ := HXA.out.cell 1
   obtain ⟨r2, f2⟩ := HXA.out.cell 2
   rw [e9]
   clear e9 hrd hx HN HXYZ
   go_wp2
   refine bodyPost_ret (v := .tuple #[.agg #[.int .i64 0, .int .i64 0, .slice none 0 0], .int .i64 0, .bool false]) (by simp [results, Tryz.results169, go_sem, r0, r1, r2]) rfl ?_
   exact RecoveredG.fail HN2.out (belowThree HBA.out _ (Nat.le_refl _) _ _ _)
 | ok t =>
   obtain ⟨v, k, f⟩ := t
   obtain ⟨rfl, rfl, rfl⟩ := HXYZ.out v k f hrd
   obtain ⟨-, hv1, hv3, hk6, hf62⟩ := readH_sound hrd
   have HRB2 := hide (HRB.out v k f hv1 hv3 hf62)
   have hcn := HCNT.out v f
   rw [hrd] at HN
   have e9 : errH (Except.ok (v, k, f) : Except Int (Nat × Nat × Nat)) = 0 := rfl
   rw [e9]
   unfold BlocksRead at HRB2
   simp only at HN
   generalize walkB v f B [] 16 = T at *
   obtain ⟨recs, cnt, er⟩ := T
   simp only at HN HRB2 hcn
   obtain ⟨q, hq⟩ : ∃ q, q = 1 + cnt := ⟨_, rfl⟩
   obtain ⟨hrf, hcf⟩ := HCF.out q (by omega)
   have kf := hcf (1 + (cnt : Int)) (by omega)
   have HSI2 := hide (HSI.out q)
   have HPF : Hid (∀ W : World, OwnL W (w.heap.size + 1) (.slice (some ⟨b0, o0, none⟩) L.length c1) L -> RdL W (.slice (some ⟨b0, o0, none⟩) q c1) (L.take q)) := hide (fun W h => h.rd.front q (by omega))
   have HRF := hide hrf
   have hcw : (1 : Int) + (cnt : Int) <= 100000 := by omega
   have hcw2 : IntKind.i64.wrap (1 + (cnt : Int)) = 1 + (cnt : Int) := by rw [IntKind.wrap_i64]; omega
   have hq2 : (1 : Int) + (cnt : Int) <= (L.length : Int) := by omega
   rw [<- hq] at HN
   obtain ⟨SZ, hSZ⟩ : ∃ SZ, SZ = (framesOf (L.take q)).length := ⟨_, rfl⟩
   rw [<- hSZ] at HN HSI2
   generalize L.take q = PF at *
   clear e9 hrd HXYZ HRB hv1 hv3 hk6 hf62 HSI HCF HCNT hrf hcf hcn hq hSZ
   generalize (v : Int) = V at *
   have HLT : Hid (w.heap.size < WA.heap.size) := hide (Nat.lt_trans hNA0 HHA.out.lt)
   have HKA : Hid (∀ W, Below WA.heap.size WA W -> W.cell? ⟨NA, 0, none⟩ = some (.int .i64 V) ∧ W.cell? ⟨NA, 1, none⟩ = some (.int .i64 (k : Int)) ∧ W.cell? ⟨NA, 2, none⟩ = some (.int .i64 (f : Int))) := hide (fun W hb => (HHA.out.below hb HHA.out.lt).cell.1)
   have HBD : Hid (Below WA.heap.size WA WA.drew) := hide ((Below.refl _ _).drew)
   have HK0 := hide (HKA.out _ HBD.out)
   have HRMA := hide (HRM.out.below HB1A.out (Nat.le_refl _))
   go_upto_region 7 with fail
   go_cut [9, 10, 11] (fun vl vc ve wc => ∃ al nl cl, vl = .slice al nl cl ∧ vc = .int .i64 (cnt : Int) ∧ ve = .int .i64 er ∧ Hid (∀ r ∈ recs, RecOk r) ∧ Hid (OwnR wc WA.heap.size (.slice al nl cl) recs) ∧ Hid (Below WA.heap.size WA wc))
   case first =>
     go_region_held2 (fun W => W.cell? ⟨NA, 0, none⟩ = some (.int .i64 V) ∧ W.cell? ⟨NA, 1, none⟩ = some (.int .i64 (k : Int)) ∧ W.cell? ⟨NA, 2, none⟩ = some (.int .i64 (f : Int))) (first | exact HK0.out | exact HK3.out)
       (first
         | (go_at_call 207; refine (HRB2.out _ WA.drew HBA.out.drew (HRMA.out.below HBD.out (Nat.le_refl _))).mono ?_; rintro e W3 ⟨v3, rfl, hr3, hok3, hb3⟩; have HR3 : Hid (OwnR W3 WA.heap.size v3 recs) := hide hr3; have HOK3 := hide hok3; have HB3 := hide (HBD.out.trans hb3); have HK3 := hide (HKA.out W3 HB3.out); obtain ⟨a3, c3, rfl⟩ := hr3.shape; clear hb3 hr3 hok3))
     all_goals
       go_wp2_with fail
       go_meet
       exact ⟨_, _, _, rfl, rfl, rfl, HOK3, HR3, HB3⟩
   case rest =>
     obtain ⟨al, nl, cl, rfl, rfl, rfl, HOK3, HR3, HB3⟩ := hcut
     have HXC := hide (HXA.out.below HB3.out (Nat.le_refl _))
     have HHC := hide (HHA.out.below HB3.out HHA.out.lt)
     have HBC := hide (HBA.out.trans (HB3.out.mono HBA.out.size))
     have HB1C := hide (HB1A.out.trans (HB3.out.mono HB1A.out.size))
     have HKC : Hid (∀ W, Below wc.heap.size wc W -> W.cell? ⟨NA, 0, none⟩ = some (.int .i64 V) ∧ W.cell? ⟨NA, 1, none⟩ = some (.int .i64 (k : Int)) ∧ W.cell? ⟨NA, 2, none⟩ = some (.int .i64 (f : Int))) := hide (fun W hb => (HHC.out.below hb HHC.out.lt).cell.1)
     have HBD2 : Hid (Below wc.heap.size wc wc.drew) := hide ((Below.refl _ _).drew)
     have HK1 := hide (HKC.out _ HBD2.out)
     have HRFC := hide (HRF.out.below HB1C.out (Nat.le_refl _))
     have HOLC := hide (HOL.out.below HB1C.out (Nat.le_refl _))
     have hneN : NA ≠ w.heap.size := by omega
     clear HXA HHA HBA HB1A HB3 HKA HBD HK0 HRMA HRB2 HRM HRF
     go_upto_region 8 with fail
     go_region_held (fun W => W.cell? ⟨NA, 0, none⟩ = some (.int .i64 V) ∧ W.cell? ⟨NA, 1, none⟩ = some (.int .i64 (k : Int)) ∧ W.cell? ⟨NA, 2, none⟩ = some (.int .i64 (f : Int))) (first | exact HK1.out | exact HK4.out | exact HKS.out | exact HK5.out | exact HK6.out | exact HKT.out)
       (first
         | (go_at_call 208; refine (HSG.out _ _ _ _ _ _ wc.drew).mono ?_; rintro e W4 ⟨rfl, hb4⟩; have HB4 := hide (HBD2.out.trans hb4); have HK4 := hide (HKC.out W4 HB4.out); have HX4 := hide (HXC.out.below HB4.out (Nat.le_refl _)); have HH4 := hide (HHC.out.below HB4.out HHC.out.lt); have HW4 := hide (HBC.out.trans (HB4.out.mono HBC.out.size)); have HO4 := hide (HR3.out.below HB4.out (Nat.le_refl _)); have HF4 := hide (HRFC.out.below HB4.out (Nat.le_refl _)); obtain ⟨r0, f0⟩ := HX4.out.cell 0; obtain ⟨r1, f1⟩ := HX4.out.cell 1; obtain ⟨r2, f2⟩ := HX4.out.cell 2; have HHS := hide (((HH4.out.other hneN 0 (.int .i64 (k : Int))).other hneN 1 (.int .i64 (f : Int))).other hneN 2 (.slice al nl cl)); have HKS := hide HHS.out.cell.1; have HOL4 := hide (HOLC.out.below HB4.out (Nat.le_refl _)); have HFS : Hid (RdL ((((W4.setCell ⟨w.heap.size, 0, none⟩ (.int .i64 (k : Int))).setCell ⟨w.heap.size, 1, none⟩ (.int .i64 (f : Int))).setCell ⟨w.heap.size, 2, none⟩ (.slice al nl cl))) _ PF) := hide (HPF.out _ (((HOL4.out.set w.heap.size 0 (Nat.lt_succ_self _) (.int .i64 (k : Int))).set w.heap.size 1 (Nat.lt_succ_self _) (.int .i64 (f : Int))).set w.heap.size 2 (Nat.lt_succ_self _) (.slice al nl cl))); have HXS := hide (HX4.out.set3 (.int .i64 (k : Int)) (.int .i64 (f : Int)) (.slice al nl cl)); have HOS := hide (((HO4.out.set w.heap.size 0 HLT.out (.int .i64 (k : Int))).set w.heap.size 1 HLT.out (.int .i64 (f : Int))).set w.heap.size 2 HLT.out (.slice al nl cl)); have HWS := hide (belowThree HW4.out w.heap.size (Nat.le_refl _) (.int .i64 (k : Int)) (.int .i64 (f : Int)) (.slice al nl cl)); clear hb4)
         | (go_at_call 209; refine (HSI2.out _ W4 HF4.out).mono ?_; rintro e W5 ⟨rfl, hb5⟩; have HK5 := hide (HH4.out.below hb5 HH4.out.lt).cell.1; have HX5 := hide (HX4.out.below hb5 (Nat.le_refl _)); have HW5 := hide (HW4.out.trans (hb5.mono HW4.out.size)); have HO5 := hide (HO4.out.below hb5 (Nat.le_refl _)); obtain ⟨s0, g0⟩ := HX5.out.cell 0; obtain ⟨s1, g1⟩ := HX5.out.cell 1; obtain ⟨s2, g2⟩ := HX5.out.cell 2; have HKT := hide ((((HH4.out.below hb5 HH4.out.lt).other hneN 0 (.int .i64 (k : Int))).other hneN 1 (.int .i64 (f : Int))).other hneN 2 (.slice al nl cl)).cell.1; clear hb5)
         | (go_at_call 209; refine (HSI2.out _ (((W4.setCell ⟨w.heap.size, 0, none⟩ (.int .i64 (k : Int))).setCell ⟨w.heap.size, 1, none⟩ (.int .i64 (f : Int))).setCell ⟨w.heap.size, 2, none⟩ (.slice al nl cl)) HFS.out).mono ?_; rintro e W6 ⟨rfl, hb6⟩; have HK6 := hide (HHS.out.below hb6 HHS.out.lt).cell.1; have HX6 := hide (HXS.out.below hb6 (Nat.le_refl _)); have HO6 := hide (HOS.out.below hb6 (Nat.le_refl _)); have HW6 := hide (HWS.out.trans (hb6.mono HWS.out.size)); obtain ⟨s0, g0⟩ := HX6.out.cell 0; obtain ⟨s1, g1⟩ := HX6.out.cell 1; obtain ⟨s2, g2⟩ := HX6.out.cell 2; clear hb6))
     all_goals
       go_wp2
       refine bodyPost_ret (v := .tuple #[.agg #[.int .i64 (k : Int), .int .i64 (f : Int), .slice al nl cl], .int .i64 (SZ : Int), .bool true]) (by simp [results, Tryz.results169, go_sem, s0, s1, s2]) rfl ?_
       refine ⟨.slice al nl cl, by rw [HN.out], ?_, ?_⟩
       · rw [HN.out]
         first
         | exact HO6.out.rd HOK3.out
         | exact OwnR.rd (((HO5.out.set w.heap.size 0 HLT.out _).set w.heap.size 1 HLT.out _).set w.heap.size 2 HLT.out _) HOK3.out
       · first
         | exact HW6.out
         | exact belowThree HW5.out w.heap.size (Nat.le_refl _) _ _ _

theorem wp_region_cls {P : Program} {ι : Type} (W : ι -> World) (i0 : ι) {id : Nat} {Q : Exit -> Act -> World -> Prop} {a : Act} {w : World} {l : List Oper} (hm : P.follows .mixedOrders = true) (hB : Region.lexB .any l.toArray = true) (h0 : W i0 = w.drew)
   (h : wpQuiet P l.toArray (fun w' => ∃ n, w' = W n) (fun a' => ∀ w', (∃ n, w' = W n) -> Q .normal a' w') l a) : (Code.region id l.toArray true).wp P Q a w :=
 wp_region_quiet (C := fun w' => ∃ n, w' = W n) hm hB ⟨i0, h0.symm⟩ (by simpa using h)

theorem below_cls (B : Nat) (w : World) : ∃ (ι : Type) (_ : Nonempty ι) (W : ι -> World), (∀ i, Below B w (W i)) ∧ ∀ w', Below B w w' -> ∃ i, w' = W i :=
 ⟨{ w' // Below B w w' }, ⟨⟨w, Below.refl _ _⟩⟩, Subtype.val, fun i => i.2, fun w' h => ⟨⟨w', h⟩, rfl⟩⟩

set_option maxRecDepth 100000 in
set_option maxHeartbeats 4000000 in
theorem blockFitsB_any (v : Value) (l : List Rec) (w : World) (hr : RdR w v l) :
   Calls Tryz.prog 52 #[v] w fun e w' => e = .returned (.bool (decide (FitsB l))) ∧ Below w.heap.size w w' := by
 have HR := hide hr
 obtain ⟨ao, cap, rfl, hlc, hcm, -, -, hao⟩ := hr
 have hml : (l.length : Int) <= 9223372036854775807 := by unfold maxLen at hcm; omega
 have HAO := hide hao
 clear hao hlc hcm
 by_cases h1 : 1 <= l.length
 case neg =>
   have HF : Hid (decide (FitsB l) = false) := decide_eq_false (fun h => h1 h.1)
   have h1' : (l.length : Int) < 1 := by omega
   rw [HF.out]
   go_enter Tryz.func52, Tryz.ntmps52
   go_wp2
   go_ret
   exact ⟨rfl, Below.refl _ _⟩
 have h1' : ¬ (l.length : Int) < 1 := by omega
 by_cases h2 : l.length <= 256
 case neg =>
   have HF : Hid (decide (FitsB l) = false) := decide_eq_false (fun h => h2 h.2.1)
   have h2' : 256 < (l.length : Int) := by omega
   rw [HF.out]
   go_enter Tryz.func52, Tryz.ntmps52
   go_wp2
   go_ret
   exact ⟨rfl, Below.refl _ _⟩
 have h2' : ¬ 256 < (l.length : Int) := by omega
 have HALL := hide (fun h => partB_all (l := l) h h1 h2)
 have HPART := hide (fun (h : FitsB l) k => h.part k)
 have HFR := hide (fun r W => fitsR_any r W)
 obtain ⟨D, hD⟩ : ∃ D, D = decide (FitsB l) := ⟨_, rfl⟩
 rw [<- hD]
 have HDT : Hid (partB l l.length -> D = true) := fun h => by rw [hD]; exact decide_eq_true (HALL.out h)
 have HDF : Hid (∀ k, ¬ partB l k -> D = false) := fun k h => by rw [hD]; exact decide_eq_false (fun hf => h (HPART.out hf k))
 have HP0 := hide (partB_zero l)
 have hpos : (0 : Int) < (l.length : Int) := by omega
 clear hD HALL HPART h1 h2
 go_enter Tryz.func52, Tryz.ntmps52
 go_wp2
 go_loopw [15] (fun vi wr => ∃ k : Nat, vi = .int .i64 (k : Int) ∧ k <= l.length ∧ Hid (partB l k) ∧ Hid (Below w.heap.size w wr)) (fun vi _ => l.length - (intOf vi).toNat)
 case atStart => exact ⟨0, rfl, Nat.zero_le _, HP0, Below.refl _ _⟩
 case round =>
   obtain ⟨k, rfl, hk, hP, hB⟩ := hrel
   by_cases hlt : k < l.length
   case neg =>
     obtain rfl : k = l.length := by omega
     have HT := hide (HDT.out hP.out)
     go_wp2
     go_ret
     rw [HT.out]
     exact ⟨rfl, hB.out⟩
   rcases HAO.out with h0 | ⟨c, off, rfl, hc⟩
   · rw [h0] at hlt; simp at hlt
   have hck := hc k hlt
   have hc0 := hc 0 (by omega)
   have HBC := hide (fun W (h : Below w.heap.size w W) => hck.keep (h.block c hck.lt))
   have HB0 := hide (fun W (h : Below w.heap.size w W) => (hc0.keep (h.block c hc0.lt)).1)
   have HPN := hide (partB_next hlt)
   have hh : l.headD zeroR = l.getD 0 zeroR := by cases l <;> simp
   rw [hh] at HPN
   have HFH : Hid (FitsR (l.getD k zeroR) -> FitsR (l.getD 0 zeroR)) := hide (fun hf => by
     cases k with
     | zero => exact hf
     | succ q =>
       refine hP.out.1 _ ?_
       cases l with
       | nil => simp at hlt
       | cons x t => simp)
   have hkc := HBC.out wr hB.out
   obtain ⟨c0, c1, c2, c3, c4, c5, c6⟩ := hkc
   have HFK := hide (HFR.out (l.getD k zeroR))
   have hFk : ∃ bf, bf = decide (FitsR (l.getD k zeroR)) := ⟨_, rfl⟩
   obtain ⟨bf, hbf⟩ := hFk
   rw [<- hbf] at HFK
   have HBF := hide hbf
   unfold recV at HFK
   obtain ⟨r, hr⟩ : ∃ r, r = l.getD k zeroR := ⟨_, rfl⟩
   rw [<- hr] at HFK HPN HBF HBC HFH c0 c1 c2 c3 c4 c5 c6
   clear hbf hc hck hr hc0 hh
   generalize (l.getD 0 zeroR) = r0 at *
   go_upto_region 6 with fail
   obtain ⟨W0, hW0⟩ : ∃ W0, W0 = wr.alloc (.cells (recC r) 66) := ⟨_, rfl⟩
   have hn0 : W0.heap.size = wr.heap.size + 1 := by rw [hW0]; simp
   have HBW : Hid (Below w.heap.size w W0) := hide (by rw [hW0]; exact hB.out.alloc hB.out.size _)
   have HBX : Hid (Br W0 wr.heap.size (recC r)) := hide (by rw [hW0]; exact heap_alloc_new wr _)
   unfold recC at hW0
   rw [<- hW0]
   clear hW0 c0 c1 c2 c3 c4 c5 c6
   obtain ⟨ι, hne, V, hV, hmem⟩ := below_cls W0.heap.size W0
   have HV := hide hV
   have HM := hide hmem
   obtain ⟨i0, hi0⟩ := hmem W0.drew (Below.refl _ _).drew
   have HBV : Hid (∀ i, Below w.heap.size w (V i)) := hide (fun i => HBW.out.trans ((HV.out i).mono HBW.out.size))
   have hbr : ∀ i, Br (V i) wr.heap.size (recC r) := fun i => ((HV.out i).block _ (by omega)).trans HBX.out
   have d0 : ∀ i, (V i).cell? ⟨wr.heap.size, 0, none⟩ = some (.int .i64 r.idx) := fun i => ((hbr i).cell 0).1
   have d1 : ∀ i, (V i).cell? ⟨wr.heap.size, 1, none⟩ = some (.int .i64 r.proc) := fun i => ((hbr i).cell 1).1
   have d2 : ∀ i, (V i).cell? ⟨wr.heap.size, 2, none⟩ = some (.int .i64 r.seq) := fun i => ((hbr i).cell 2).1
   have d3 : ∀ i, (V i).cell? ⟨wr.heap.size, 3, none⟩ = some (.int .i64 r.op.code) := fun i => ((hbr i).cell 3).1
   have d4 : ∀ i, (V i).cell? ⟨wr.heap.size, 4, none⟩ = some (.int .i64 r.op.a) := fun i => ((hbr i).cell 4).1
   have d5 : ∀ i, (V i).cell? ⟨wr.heap.size, 5, none⟩ = some (.int .i64 r.op.b) := fun i => ((hbr i).cell 5).1
   have d6 : ∀ i, (V i).cell? ⟨wr.heap.size, 6, none⟩ = some (.int .i64 r.resp) := fun i => ((hbr i).cell 6).1
   have e0 : ∀ i, (V i).cell? ⟨c, off, none⟩ = some (.int .i64 r0.idx) := fun i => by
     have h := HB0.out (V i) (HBV.out i)
     rwa [Nat.zero_mul, Nat.add_zero] at h
   have HCA : Hid (∀ i, Calls Tryz.prog 45 #[.agg #[.int .i64 r.idx, .int .i64 r.proc, .int .i64 r.seq, .int .i64 r.op.code, .int .i64 r.op.a, .int .i64 r.op.b, .int .i64 r.resp]] (V i) fun e w' => e = .returned (.bool bf) ∧ ∃ m, w' = V m) := hide (fun i => (HFK.out (V i)).mono fun e w' h => ⟨h.1, HM.out w' ((HV.out i).trans (h.2.mono (HV.out i).size))⟩)
   clear hV hmem hbr HFK HB0 HBC
   cases bf with
   | false =>
     have HD := hide (HDF.out (k + 1) (fun h => of_decide_eq_false HBF.out.symm (HPN.out.1 h).2.1))
     refine wp_region_cls V i0 (by kernel_rfl) (by kernel_rfl) hi0.symm ?_
     repeat (go_big_quiet_step ((go_at_call 45; exact HCA.out _)))
     refine wpQuiet_nil ?_
     intro _ hw'
     obtain ⟨nq, hw''⟩ := hw'
     subst hw''
     go_wp2
     go_ret
     rw [HD.out]
     exact ⟨rfl, HBV.out _⟩
   | true =>
     have HFT := hide (of_decide_eq_true HBF.out.symm)
     obtain ⟨-, i1, i2, -⟩ := HFH.out HFT.out
     by_cases hni : r.idx = r0.idx + k
     · have hneb : (r.idx != r0.idx + k) = false := by rw [bne_eq_false_iff_eq]; exact hni
       have HP1 := hide (HPN.out.2 ⟨hP.out, HFT.out, hni⟩)
       clear HPN hni
       refine wp_region_cls V i0 (by kernel_rfl) (by kernel_rfl) hi0.symm ?_
       repeat (go_big_quiet_step ((go_at_call 45; exact HCA.out _)))
       refine wpQuiet_nil ?_
       intro _ hw'
       obtain ⟨nq, hw''⟩ := hw'
       subst hw''
       go_wp2
       go_roundw
       case rel => exact ⟨k + 1, by go_num, by omega, HP1, HBV.out _⟩
       case measure => simp [intOf]; omega
     · have hneb : (r.idx != r0.idx + k) = true := by rw [bne_iff_ne]; exact hni
       have HD := hide (HDF.out (k + 1) (fun h => hni (HPN.out.1 h).2.2))
       clear HPN hni
       refine wp_region_cls V i0 (by kernel_rfl) (by kernel_rfl) hi0.symm ?_
       repeat (go_big_quiet_step ((go_at_call 45; exact HCA.out _)))
       refine wpQuiet_nil ?_
       intro _ hw'
       obtain ⟨nq, hw''⟩ := hw'
       subst hw''
       go_wp2
       go_ret
       rw [HD.out]
       exact ⟨rfl, HBV.out _⟩

def PutO (w : World) (l : List UInt8) (o : Opn) (e : Ending) (w' : World) : Prop :=
 ∃ v', e = .returned (.tuple #[v', .int .i64 (if FitsO o then 0 else 1)]) ∧ Own w' w.heap.size v' (if FitsO o then l ++ putOpL o else l) ∧ Below w.heap.size w w'

set_option maxRecDepth 100000 in
set_option maxHeartbeats 2000000 in
theorem putOp_own (v : Value) (l : List UInt8) (o : Opn) (w : World) (hr : Rd w v l) (hlim : l.length <= 90000) :
   Calls Tryz.prog 188 #[v, opV o] w fun e w' => PutO w l o e w' := by
 obtain ⟨va, vc, rfl, hvr⟩ : ∃ va vc, v = .slice va l.length vc ∧ Rd w (.slice va l.length vc) l := by
   have h := hr
   obtain ⟨va, vc, rfl, _⟩ := hr
   exact ⟨va, vc, rfl, h⟩
 have HR := hide hr
 clear hvr
 have HF := hide (fun w => fits_any o w)
 have HB0 : Hid (∀ X, Below w.heap.size w (w.alloc X)) := fun X => (Below.refl _ _).alloc (Nat.le_refl _) X
 obtain ⟨code, a, b⟩ := o
 clear hr
 show Calls Tryz.prog _ #[_, .agg #[.int .i64 code, .int .i64 a, .int .i64 b]] w _
 have HF' : Hid (∀ W, Calls Tryz.prog 87 #[.agg #[.int .i64 code, .int .i64 a, .int .i64 b]] W fun e w' => e = .returned (.bool (decide (FitsO ⟨code, a, b⟩))) ∧ Below W.heap.size W w') := HF.out
 clear HF
 unfold PutO
 by_cases hf : FitsO ⟨code, a, b⟩
 · simp only [if_pos hf]
   have HT := hide (decide_eq_true hf)
   have HIA : Hid (I64 a) := (fits_i64 hf).1
   have HIB : Hid (I64 b) := (fits_i64 hf).2
   have hc0 : 0 <= code := hf.1
   have hc1 : code <= 10 := hf.2.1
   have hl1 := uv10' (n := code.toNat) (by omega)
   have hl2 := uv10 HIA.out
   have hl3 := uv10 HIB.out
   have HP : Hid (∀ W, Calls Tryz.prog 136 #[.slice none 0 0, .int .i64 code] W fun e w' => ∃ v', e = .returned v' ∧ Own w' W.heap.size v' (Lib.uvarint code.toNat) ∧ Below W.heap.size W w') := fun W => by
     have h := put_any (.slice none 0 0) [] code W (Rd.nil W) (by simp)
     rw [putOf_small hc0 (by omega), List.nil_append] at h
     exact h
   have HA : Hid (∀ W, Calls Tryz.prog 145 #[.slice none 0 0, .int .i64 a] W fun e w' => ∃ v', e = .returned v' ∧ Own w' W.heap.size v' (Lib.uvarint (Lib.zigzag a)) ∧ Below W.heap.size W w') := fun W => by
     have h := putSigned_any (.slice none 0 0) [] a W (Rd.nil W) (by simp) HIA.out.1 HIA.out.2
     rw [List.nil_append] at h
     exact h
   have HB : Hid (∀ W, Calls Tryz.prog 145 #[.slice none 0 0, .int .i64 b] W fun e w' => ∃ v', e = .returned v' ∧ Own w' W.heap.size v' (Lib.uvarint (Lib.zigzag b)) ∧ Below W.heap.size W w') := fun W => by
     have h := putSigned_any (.slice none 0 0) [] b W (Rd.nil W) (by simp) HIB.out.1 HIB.out.2
     rw [List.nil_append] at h
     exact h
   have HE : Hid (putOpL ⟨code, a, b⟩ = Lib.uvarint code.toNat ++ (Lib.uvarint (Lib.zigzag a) ++ Lib.uvarint (Lib.zigzag b))) := rfl
   rw [HE.out]
   have HCC : Hid (∀ W N v0 v1 v2 v3, N = W.heap.size -> Rd W v0 l -> Rd W v1 (Lib.uvarint code.toNat) -> Rd W v2 (Lib.uvarint (Lib.zigzag a)) -> Rd W v3 (Lib.uvarint (Lib.zigzag b)) -> Calls Tryz.prog 135 #[.slice (some ⟨N, 0, none⟩) 4 4] (W.alloc (.cells #[v0, v1, v2, v3] 53)) fun e w' => ∃ v', e = .returned v' ∧ Own w' W.heap.size v' (l ++ (Lib.uvarint code.toNat ++ (Lib.uvarint (Lib.zigzag a) ++ Lib.uvarint (Lib.zigzag b)))) ∧ Below W.heap.size W w') := fun W N v0 v1 v2 v3 hN h0 h1 h2 h3 => concat4 W N hN v0 v1 v2 v3 _ _ _ _ h0 h1 h2 h3 (by omega)
   clear hf hl1 hl2 hl3 HE HIA HIB hc0 hc1
   generalize Lib.uvarint code.toNat = A at *
   generalize Lib.uvarint (Lib.zigzag a) = LA at *
   generalize Lib.uvarint (Lib.zigzag b) = LB at *
   generalize l ++ (A ++ (LA ++ LB)) = LL at *
   go_enter Tryz.func188, Tryz.ntmps188
   go_wp2_with fail
   refine (HF'.out _).mono ?_
   rintro e W1 ⟨rfl, hb1⟩
   rw [HT.out]
   have hx1 : Bo W1 w.heap.size _ := (hb1.block w.heap.size (by simp)).trans (heap_alloc_new w _)
   have HX1 := hide hx1
   have HB1 := hide ((HB0.out _).trans (hb1.mono (HB0.out _).size))
   obtain ⟨p0, -⟩ := hx1.cell 0
   obtain ⟨p1, -⟩ := hx1.cell 1
   obtain ⟨p2, -⟩ := hx1.cell 2
   have hsz1 := HB1.out.size
   clear hb1 hx1
   go_wp2
   go_region_held (fun w' => w'.cell? ⟨w.heap.size, 0, none⟩ = some (.int .i64 code) ∧ w'.cell? ⟨w.heap.size, 1, none⟩ = some (.int .i64 a) ∧ w'.cell? ⟨w.heap.size, 2, none⟩ = some (.int .i64 b)) (go_keep)
     (first
       | (go_at_call 136; refine (HP.out _).mono ?_; rintro e W2 ⟨v2, rfl, ho2, hb2⟩; have hx2 := HX1.out.below (((Below.refl _ _).drew).trans hb2) (Nat.le_refl _); have HX2 := hide hx2; have HB2 := hide (HB1.out.trans ((((Below.refl _ _).drew).trans hb2).mono HB1.out.size)); obtain ⟨a2, c2, rfl, -⟩ := ho2.rd; have HO2 := hide ho2.rd; obtain ⟨q0, -⟩ := hx2.cell 0; obtain ⟨q1, -⟩ := hx2.cell 1; obtain ⟨q2, -⟩ := hx2.cell 2; clear ho2 hb2 hx2)
       | (go_at_call_of 145 (Value.int .i64 a); refine (HA.out _).mono ?_; rintro e W3 ⟨v3, rfl, ho3, hb3⟩; have hx3 := HX2.out.below hb3 (Nat.le_refl _); have HX3 := hide hx3; have HB3 := hide (HB2.out.trans (hb3.mono HB2.out.size)); have HO23 := hide (HO2.out.below hb3 (Nat.le_refl _)); obtain ⟨a3, c3, rfl, -⟩ := ho3.rd; have HO3 := hide ho3.rd; obtain ⟨r0, -⟩ := hx3.cell 0; obtain ⟨r1, -⟩ := hx3.cell 1; obtain ⟨r2, -⟩ := hx3.cell 2; clear ho3 hb3 hx3)
       | (go_at_call_of 145 (Value.int .i64 b); refine (HB.out _).mono ?_; rintro e W4 ⟨v4, rfl, ho4, hb4⟩; have hx4 := HX3.out.below hb4 (Nat.le_refl _); have HX4 := hide hx4; have HB4 := hide (HB3.out.trans (hb4.mono HB3.out.size)); have HO24 := hide (HO23.out.below hb4 (Nat.le_refl _)); have HO34 := hide (HO3.out.below hb4 (Nat.le_refl _)); obtain ⟨a4, c4, rfl, -⟩ := ho4.rd; have HO4 := hide ho4.rd; obtain ⟨s0, -⟩ := hx4.cell 0; obtain ⟨s1, -⟩ := hx4.cell 1; obtain ⟨s2, -⟩ := hx4.cell 2; clear ho4 hb4 hx4)
       | (go_at_call 135; refine (HCC.out W4 W4.heap.size _ _ _ _ rfl (HR.out.below HB4.out (Nat.le_refl _)) HO24.out HO34.out HO4.out).mono ?_; rintro e W5 ⟨v5, rfl, ho5, hb5⟩; have hx5 := HX4.out.below hb5 (Nat.le_refl _); have HB5 := hide (HB4.out.trans (hb5.mono HB4.out.size)); have HO5 := hide (ho5.mono HB4.out.size); obtain ⟨t0, -⟩ := hx5.cell 0; obtain ⟨t1, -⟩ := hx5.cell 1; obtain ⟨t2, -⟩ := hx5.cell 2; clear ho5 hb5 hx5))
   all_goals
     go_wp2
     go_ret2
     exact ⟨_, rfl, HO5.out, HB5.out⟩
 · simp only [if_neg hf]
   have HT := hide (decide_eq_false hf)
   have HCL := hide (fun W h => cloneB_any (.slice va l.length vc) l W h (by omega))
   clear hf
   go_enter Tryz.func188, Tryz.ntmps188
   go_wp2_with fail
   refine (HF'.out _).mono ?_
   rintro e W2 ⟨rfl, hb2⟩
   rw [HT.out]
   have HB2 := hide ((HB0.out _).trans (hb2.mono (HB0.out _).size))
   clear hb2
   go_wp2_with fail
   refine (HCL.out _ (HR.out.below HB2.out (Nat.le_refl _))).mono ?_
   rintro e W3 ⟨v3, rfl, ho3, hb3⟩
   have HO3 := hide (ho3.mono HB2.out.size)
   have HB3 := hide (HB2.out.trans (hb3.mono HB2.out.size))
   clear ho3 hb3
   go_wp2
   go_ret2
   exact ⟨_, rfl, HO3.out, HB3.out⟩

open Go.RowKit Go.Maps

theorem mapKeys : Keyed Tryz.prog 3 := int_keyed Tryz.underlying3

theorem mapZero (w : World) : (zeroValue 3).run Tryz.prog w = .ok (.int .i64 0) w := by kernel_rfl

theorem wf64 {n : Int} (h : I64 n) : (Lit.int .i64 n).wf = true := WalkArith.wf_i64 (by obtain ⟨h0, h1⟩ := h; omega)

def MapI (w : World) (b n : Nat) (f : Int -> Int) : Prop :=
 ∃ D : DataW Unit, w.ownsMap Tryz.prog 3 (plainElem Tryz.prog 3) b n D ∧ IsMap D ∧ ∀ p, I64 p -> D.atKey (.int .i64 p) (.lit (.int .i64 0)) = .lit (.int .i64 (f p))

theorem MapI.made (w : World) : MapI (w.alloc (.map #[] 0)) w.heap.size 0 (fun _ => 0) :=
 ⟨.map [], World.ownsMap_made _ _ _ _, isMap_empty, fun _ _ => rfl⟩

theorem MapI.lt {w : World} {b n : Nat} {f : Int -> Int} (h : MapI w b n f) : b < w.heap.size := by
 obtain ⟨D, h1, _⟩ := h
 exact h1.lt

theorem MapI.keep {w w' : World} {b n : Nat} {f : Int -> Int} (h : MapI w b n f) (hk : w'.heap[b]? = w.heap[b]?) : MapI w' b n f := by
 obtain ⟨D, ⟨es, clock, hb, r⟩, h2⟩ := h
 exact ⟨D, ⟨es, clock, hk.trans hb, r⟩, h2⟩

theorem MapI.below {w w' : World} {b n B : Nat} {f : Int -> Int} (h : MapI w b n f) (hb : Below B w w') (hB : w.heap.size <= B) : MapI w' b n f :=
 h.keep (hb.block b (by have := h.lt; omega))

theorem MapI.apart {w : World} {b n : Nat} {f : Int -> Int} (h : MapI w b n f) {cs : Array Value} {t : TypeId} {z : Nat × Nat} {g : Nat} (hg : w.heap[g]? = some (.cells cs t z)) : g ≠ b := by
 obtain ⟨D, ⟨es, clock, hb, _⟩, _⟩ := h
 intro e
 rw [e, hb] at hg
 cases hg

theorem MapI.own {w : World} {b n : Nat} {f : Int -> Int} (h : MapI w b n f) {B : Nat} {v : Value} {l : List UInt8} (ho : Own w B v l) : v.ownBlock = none ∨ v.ownBlock ≠ some b := by
 rcases ho.2 with ⟨hv, _⟩ | ⟨g, cap, cur, hv, _, hg, _⟩
 · exact .inl (by rw [hv]; rfl)
 · right
   rw [hv]
   have hne := h.apart hg
   intro e
   exact hne (by simpa [Value.ownBlock] using e)

theorem MapI.look {w : World} {b n : Nat} {f : Int -> Int} (h : MapI w b n f) {p : Int} (hp : I64 p) : (Instr.lookup 185 (.map (some b)) (.int .i64 p) false).run Tryz.prog w = .ok (.int .i64 (f p)) w := by
 obtain ⟨D, h1, _, h3⟩ := h
 obtain ⟨c, hrun, hat, _⟩ := h1.lookup_int mapKeys Tryz.underlying185 Tryz.underlying3 (mapZero _) (keyOf_int_mk Tryz.underlying3 (wf64 hp))
 rw [h3 p hp] at hat
 have e : f p = c := by simpa using hat
 rw [hrun, e]

def putF (f : Int -> Int) (p x : Int) : Int -> Int := fun q => if p = q then x else f q

theorem MapI.put {w : World} {b n : Nat} {f : Int -> Int} (h : MapI w b n f) {p x : Int} (hp : I64 p) (hx : I64 x) (hn : n <= 1000000) :
   ∃ w', (Instr.mapUpdate 185 (.map (some b)) (.int .i64 p) (.int .i64 x)).run Tryz.prog w = .ok () w' ∧ MapI w' b (n + 1) (putF f p x) ∧ w.grownBy w' (some b) := by
 obtain ⟨D, h1, h2, h3⟩ := h
 obtain ⟨w', hrun, ho, hg⟩ := h1.update mapKeys Tryz.underlying185 (by unfold maxLen; omega) (keyOf_int_mk Tryz.underlying3 (wf64 hp)) (plainElem_int Tryz.underlying3 (wf64 hx))
 refine ⟨w', hrun, ⟨_, ho, h2.put _ _, fun q hq => ?_⟩, hg⟩
 unfold putF
 by_cases e : p = q
 · rw [if_pos e, <- e, atKey_put_same h2 (by first | exact trivial | simp [WideAt.IsKeyLit])]
 · rw [if_neg e, atKey_put_other (by intro h; injection h with _ h; exact e h.symm), h3 q hq]

end Go.Proofs.YtpopbandpnaicaaGreatDoor

