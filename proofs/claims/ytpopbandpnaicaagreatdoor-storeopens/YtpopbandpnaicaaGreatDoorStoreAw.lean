import Derived.Test.YtpopbandpnaicaaGreatDoorStoreY
import Derived.Test.YtpopbandpnaicaaGreatDoorOpenStore
namespace Go.Proofs.YtpopbandpnaicaaGreatDoor
set_option maxRecDepth 100000
open Go.RowKit

def rec0 : Rec := ⟨0, 0, 0, ⟨1, 1, 0⟩, 0⟩

def newS (kind : Int) : Sto := ⟨⟨0, [], []⟩, [startK kind], startK kind, 0, 0, false⟩

theorem openS_new (room kind : Int) : openS (newD room) kind = newS kind := by
 have h1 : logD (newD room) kind = zeroLog := rfl
 have h2 : basesD (newD room) kind = [startK kind] := rfl
 have h3 : lastSn [startK kind] = startK kind := rfl
 unfold openS
 rw [h1, h2, h3]
 have h4 : zeroLog.behind (startK kind) = (⟨0, [], []⟩, startK kind) := by
   unfold Lgb.behind
   rw [if_neg (fun h => h.1 rfl)]
   rfl
 rw [h4]
 rfl

theorem encB_few {l : List Rec} (h : FitsB l) : (encB l).length <= 20 + 60 * l.length := by
 obtain ⟨h1, h2, h3, h4⟩ := h
 have hr := encRs_len8 l [] (fun r hr => by cases hr) h3
 unfold encB
 rw [List.length_append, List.length_append]
 have hd : FitsR (l.headD zeroR) := by
   match l, h1 with
   | r :: t, _ => exact h3 r List.mem_cons_self
 have q1 : (Lib.uvarint (l.headD zeroR).idx.toNat).length <= 10 := uv10' (by have := hd.2.2.1; omega)
 have q2 : (Lib.uvarint l.length).length <= 10 := uv10' (by omega)
 omega

theorem fits0 : FitsB [rec0] := by decide

def bytes0 : List UInt8 := bytesA (newS 0) [rec0]

theorem bytes0_len : bytes0.length <= 10000 := by
 have e : bytes0 = frameOf (headS 3 0 0) ++ frameOf (encB [rec0]) := rfl
 rw [e, List.length_append, frameOf_length, frameOf_length]
 have h1 : (headS 3 0 0).length = 4 := by simp [headS, uv_small]
 have h2 : (encB [rec0]).length <= 80 := encB_few fits0
 have h3 := len3 (n := (headS 3 0 0).length) (by omega)
 have h4 := len3 (n := (encB [rec0]).length) (by omega)
 omega

def disk1 (b : List UInt8) : Dk := ⟨10000, [⟨b, 0⟩], [], [.give 2 0], -1⟩
def sto1 : Sto := appendedS (newS 0) 2 [rec0]
def disk2 (b : List UInt8) : Dk := ⟨10000, [⟨b, b.length⟩], [(2, 0)], [], -1⟩
def sto2 : Sto := syncedS { sto1 with nw := false }

theorem append0 : appendS [rec0] (newS 0, newD 10000) = ((sto1, disk1 bytes0), 0) := by
 have hn : nameA (newS 0) (newD 10000) = 2 := rfl
 have hb := bytes0_len
 have hb' : bytesA (newS 0) [rec0] = bytes0 := rfl
 have ha : appendD (newD 10000) 2 bytes0 = (disk1 bytes0, 0) := by
   generalize bytes0 = b at hb
   unfold appendD
   rw [if_neg (show (newD 10000).power ≠ 0 by decide), if_neg (by decide), if_neg (by
     show ¬ (((usedD (newD 10000) : Nat) : Int) + (b.length : Int) > 10000)
     have h0 : usedD (newD 10000) = 0 := rfl
     rw [h0]
     omega)]
   rfl
 have h15 : ([rec0].headD zeroR).idx = (newS 0).next := rfl
 unfold appendS
 rw [if_neg (fun h => h fits0), if_neg (fun h => h h15), hn, hb', ha, if_pos rfl]
 rfl

theorem sync0 (b : List UInt8) : syncS (sto1, disk1 b) = ((sto2, disk2 b), 0) := rfl

theorem hpeD (w : World) (p : Nat) : (binOp .eql 26 (ptr p) (.pointer none)).run Tryz.prog w = .ok (.bool false) w := by kernel_rfl

theorem hpnD (w : World) (p : Nat) : (binOp .neq 26 (ptr p) (.pointer none)).run Tryz.prog w = .ok (.bool true) w := by kernel_rfl

theorem hpeS (w : World) (p : Nat) : (binOp .eql 28 (ptr p) (.pointer none)).run Tryz.prog w = .ok (.bool false) w := by kernel_rfl

theorem hpnS (w : World) (p : Nat) : (binOp .neq 28 (ptr p) (.pointer none)).run Tryz.prog w = .ok (.bool true) w := by kernel_rfl

theorem Bnd.sz {d : Dk} {N T : Nat} (h : Bnd d N T) : SzD d N T := ⟨h.files, h.bytes⟩

theorem openB_any {B pd : Nat} {d : Dk} {N T : Nat} (kind : Int) (w : World) (h : DskB B w pd d N T) (hB : B <= w.heap.size) (hN : N <= 900) (hT : T <= 90000) (hNT : N * T <= 9000000) :
   Calls Tryz.prog 15 #[ptr pd, .int .i64 kind] w fun e w' => OpenR (fun k => k < B) w pd d kind N T e w' := by
 obtain ⟨hok, hbn⟩ := h.ok
 obtain ⟨F, h1, h2⟩ := h
 exact open_any kind w h1 (fun k hk hh => by have := h2 k hk; omega) (fun k hk => by omega) (by omega) (by omega) hbn.sz hN hT hNT

theorem onlyBelow {B : Nat} {w w' : World} (h : Only (fun k => ¬ k < B) w w') (hB : B <= w.heap.size) : Below B w w' := h.below hB (fun k hk => by omega)

theorem openB_ok {B pd : Nat} {d : Dk} {N T : Nat} (kind : Int) (w : World) (h : DskB B w pd d N T) (hB : B <= w.heap.size) (hN : N <= 900) (hT : T <= 90000) (hNT : N * T <= 9000000) (hE : openE d kind = 0) :
   Calls Tryz.prog 15 #[ptr pd, .int .i64 kind] w fun e w' => ∃ p, e = .returned (.tuple #[ptr p, .int .i64 0]) ∧ SD (fun k => k < B) w' pd p (openS d kind) d N T ∧ Below w.heap.size w w' :=
 (openB_any kind w h hB hN hT hNT).mono fun e w' hh => by
   rcases hh with ⟨h1, -⟩ | ⟨-, p, h2, h3, h4⟩
   · exact absurd hE h1
   · exact ⟨p, h2, h3, h4⟩

theorem rec0_row (W : World) : RdR (W.alloc (.cells #[.int .i64 0, .int .i64 0, .int .i64 0, .int .i64 1, .int .i64 1, .int .i64 0, .int .i64 0] 66)) (.slice (some ⟨W.heap.size, 0, none⟩) 1 1) [rec0] := by
 have h9 := World.ownsRow_lit (base := 0) (e := 66) W (recC rec0) 1 (Nat.zero_le _) (by unfold maxLen; omega) (size := 7) rfl
 have h8 : OwnR (W.alloc (.cells (recC rec0) 66)) 0 (.slice (some ⟨W.heap.size, 0, none⟩) 1 1) [rec0] := by
   unfold OwnR
   have e : recCells [rec0] = (recC rec0).toList := by simp [recCells]
   rw [e]
   exact h9
 exact h8.rd (fun r hr => by
   rw [List.mem_singleton.1 hr]
   exact recOk_of_fits (fits0.2.2.1 rec0 (by simp)))

set_option maxHeartbeats 4000000 in
theorem awakeS_any (w : World) : Calls Tryz.prog 9 #[] w fun e w' => e = .returned (.bool true) ∧ Below w.heap.size w w' := by
 obtain ⟨B, hB⟩ : ∃ B, B = w.heap.size := ⟨_, rfl⟩
 have hB0 : B <= w.heap.size := by omega
 rw [<- hB]
 have HN := hide (newB_any B 10000 ⟨by decide, by decide⟩ w hB0)
 have hpe := hpeD
 have hps := hpeS
 clear hB
 go_enter Tryz.func9, Tryz.ntmps9
 go_wp2_with fail
 refine HN.out.mono ?_
 rintro e W1 ⟨pd, rfl, hd1, hb1⟩
 have HB1 := hide hb1
 have hS1 : B <= W1.heap.size := Nat.le_trans hB0 hb1.size
 have HOP := hide (openB_ok 0 W1 hd1 hS1 (by decide) (by decide) (by decide) rfl)
 rw [openS_new] at HOP
 clear hd1 hb1 HN
 go_wp2_with fail
 refine HOP.out.mono ?_
 rintro e W2 ⟨p, rfl, hs2, hb2⟩
 have HS2 := hide hs2
 have HB2 := hide (HB1.out.trans (hb2.mono hS1))
 have hS2 : B <= W2.heap.size := Nat.le_trans hS1 hb2.size
 clear hs2 hb2 HOP HB1 hS1
 obtain ⟨W3, hW3⟩ : ∃ W3, W3 = W2.alloc (.cells #[.int .i64 0, .int .i64 0, .int .i64 0, .int .i64 1, .int .i64 1, .int .i64 0, .int .i64 0] 66) := ⟨_, rfl⟩
 have hs3 : W3.heap.size = W2.heap.size + 1 := by rw [hW3]; simp
 have HB23 : Hid (Below W2.heap.size W2 W3) := hide (by rw [hW3]; exact allocB _ _)
 have HAP : Hid (Calls Tryz.prog 24 #[ptr p, .slice (some ⟨W2.heap.size, 0, none⟩) 1 1] W3 fun e w' => SDid (fun k => k < B ∨ (W2.heap.size <= k ∧ k < W3.heap.size)) W3 pd p ((sto1, disk1 bytes0), 0) 2 30000 e w') := hide (by
   have h1 := appendS_any (.slice (some ⟨W2.heap.size, 0, none⟩) 1 1) [rec0] W3 (HS2.out.fresh HB23.out) (fun k hk => by
     rcases hk with hk | hk
     · omega
     · exact hk.2) (by have := openS_ok (d := newD 10000) (kind := 0) (by decide) (by decide); rw [openS_new] at this; exact this) (by rw [hW3]; exact rec0_row W2) (.inr fun k hk => by
     have e : W2.heap.size = k := Option.some.inj hk
     exact .inr (by omega)) (by decide) (by decide) (by decide) (by decide)
   rw [append0] at h1
   exact h1)
 have HW3 := hide hW3
 clear hW3 HS2
 go_wp2_with fail
 rw [<- HW3.out]
 refine HAP.out.mono ?_
 rintro e W4 ⟨rfl, hs4, ho4⟩
 have HS4 : Hid (SD (fun k => k < B) W4 pd p sto1 (disk1 bytes0) 2 30000) := hide (hs4.less (fun k hk => .inl hk))
 have HB4 : Hid (Below B w W4) := hide ((HB2.out.trans (HB23.out.mono hS2)).trans (onlyBelow (ho4.mono (fun k hk hn => hk (.inl hn))) (by omega)))
 have hS4 : B <= W4.heap.size := by have := ho4.size; omega
 clear hs4 ho4 HAP HW3 HB23 HB2 hs3
 have HSY := hide (syncS_any W4 HS4.out (fun k hk => by omega) ⟨by decide, by decide, ⟨by decide, by decide⟩, ⟨by decide, by decide⟩⟩)
 rw [sync0] at HSY
 go_wp2_with fail
 refine HSY.out.mono ?_
 rintro e W5 ⟨rfl, hs5, ho5⟩
 have HS5 : Hid (SD (fun k => k < B) W5 pd p sto2 (disk2 bytes0) 6 30000) := hide hs5
 have HB5 : Hid (Below B w W5) := hide (HB4.out.trans (onlyBelow ho5 hS4))
 have hS5 : B <= W5.heap.size := Nat.le_trans hS4 ho5.size
 clear hs5 ho5 HSY HS4 HB4
 have HNM : Hid (Calls Tryz.prog 33 #[ptr pd] W5 fun e w' => ∃ v, e = .returned v ∧ OwnI w' W5.heap.size v [2] ∧ Below W5.heap.size W5 w') := hide (by
   obtain ⟨F, M, I, L, h1, h2, h3, -⟩ := HS5.out
   exact namesB_any (B := B) W5 ⟨F, h1, fun k hk => by have := h3 k hk; omega⟩ (by decide))
 go_wp2_with fail
 refine HNM.out.mono ?_
 rintro e W6 ⟨v6, rfl, ho6, hb6⟩
 have HS6 := hide (HS5.out.below hb6)
 have HB6 := hide (HB5.out.trans (hb6.mono hS5))
 have hS6 : B <= W6.heap.size := Nat.le_trans hS5 hb6.size
 obtain ⟨ao, cap, hv6, -, -, -, -, hc⟩ := ho6.rd (fun n hn => by rw [List.mem_singleton.1 hn]; exact ⟨by decide, by decide⟩)
 rcases hc with hc | ⟨bb, off, hao, hc⟩
 · cases hc
 have HC6 := hide (hc 0 (by decide))
 subst hao
 have HV6 : Hid (v6 = .slice (some ⟨bb, off, none⟩) 1 cap) := hide hv6
 have HNX : Hid (Calls Tryz.prog 16 #[ptr p] W6 fun e w' => e = .returned (.int .i64 1) ∧ Below W6.heap.size W6 w') := hide (HS6.out.next ⟨by decide, by decide, ⟨by decide, by decide⟩, ⟨by decide, by decide⟩⟩)
 rw [HV6.out]
 clear hc hv6 ho6 hb6 HNM HS5 HB5
 go_wp2_with fail
 refine HNX.out.mono ?_
 rintro e W7 ⟨rfl, hb7⟩
 have HSN : Hid (Calls Tryz.prog 13 #[ptr p] W7 fun e w' => e = .returned (.int .i64 1) ∧ w' = W7) := hide (by
   obtain ⟨F, M, I, L, h1, h2, -⟩ := HS6.out.below hb7
   exact syncedS_any W7 h2)
 have c7 : W7.cell? ⟨bb, off + 0, none⟩ = some (.int .i64 2) := by
   have h1 : W6.cell? ⟨bb, off + 0, none⟩ = some (.int .i64 2) := HC6.out
   rw [hb7.cell (p := ⟨bb, off + 0, none⟩) (World.block_lt_of_cell? W6 _ h1)]
   exact h1
 have c7' : W7.cell? ⟨bb, off, none⟩ = some (.int .i64 2) := c7
 have HB7 := hide (HB6.out.trans (hb7.mono hS6))
 clear hb7 HNX HS6 HB6 c7
 go_wp2_with fail
 refine HSN.out.mono ?_
 rintro e W8 ⟨rfl, rfl⟩
 go_wp2
 go_ret
 exact ⟨by first | rfl | simp, HB7.out⟩

set_option maxHeartbeats 1000000 in
theorem opens_any {B pd : Nat} {d : Dk} {N T : Nat} (kind : Int) (w : World) (h : DskB B w pd d N T) (hB : B <= w.heap.size) (hN : N <= 900) (hT : T <= 90000) (hNT : N * T <= 9000000) (hE : openE d kind = 0) :
   Calls Tryz.prog 30 #[ptr pd, .int .i64 kind] w fun e w' => e = .returned (.bool true) ∧ Below w.heap.size w w' := by
 have HO := hide (openB_ok kind w h hB hN hT hNT hE)
 have hpn := hpnS
 clear h hE
 go_enter Tryz.func30, Tryz.ntmps30
 go_wp2_with fail
 refine HO.out.mono ?_
 rintro e W1 ⟨p, rfl, -, hb1⟩
 have HB1 := hide hb1
 clear hb1
 go_wp2
 go_ret
 exact ⟨by first | rfl | simp, HB1.out⟩

end Go.Proofs.YtpopbandpnaicaaGreatDoor
