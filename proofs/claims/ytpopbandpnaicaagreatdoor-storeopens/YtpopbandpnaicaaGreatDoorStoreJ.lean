import Derived.Test.YtpopbandpnaicaaGreatDoorPack8
import Derived.Test.YtpopbandpnaicaaGreatDoorPack4
import Derived.Test.YtpopbandpnaicaaGreatDoorPack7
import Derived.Test.YtpopbandpnaicaaGreatDoorPack6
import Derived.Test.YtpopbandpnaicaaGreatDoorPack5
import Derived.Test.YtpopbandpnaicaaGreatDoorPack1
import Derived.Deep.RegionHeld
import Derived.Deep.RegionHeld2
import Derived.Test.YtpopbandpnaicaaGreatDoorPack3
import Derived.Test.YtpopbandpnaicaaGreatDoorPack9
import Derived.Test.YtpopbandpnaicaaGreatDoorPack10
namespace Go.Proofs.YtpopbandpnaicaaGreatDoor
set_option maxRecDepth 100000
open Go.RowKit

theorem blockFrame_any (v : Value) (l : List Rec) (w : World) (hr : RdR w v l) (hf : FitsB l) (hlen : (encB l).length <= 1048576) :
   Calls Tryz.prog 53 #[v] w fun e w' => ∃ v', e = .returned v' ∧ Own w' w.heap.size v' (frameOf (encB l)) ∧ Below w.heap.size w w' := by
 have HE := hide (blockEncodeB_any v l w hr)
 unfold EncodedB at HE
 rw [if_pos hf, if_pos hf] at HE
 have HF := hide (fun v1 W (h : Rd W v1 (encB l)) => encode_any v1 _ W h)
 rw [frame_ok hlen] at HF
 obtain ⟨ao, cap, rfl, -⟩ := hr
 generalize encB l = B at *
 generalize frameOf B = FB at *
 clear hf hlen
 go_enter Tryz.func53, Tryz.ntmps53
 go_wp2_with fail
 refine HE.out.mono ?_
 rintro e W1 ⟨v1, rfl, ho1, hb1⟩
 have HR1 := hide ho1.rd
 have HB1 := hide hb1
 clear ho1 hb1
 go_wp2_with fail
 refine (HF.out _ _ HR1.out).mono ?_
 rintro e W2 ⟨v2, rfl, ho2, hb2⟩
 have HO2 := hide (ho2.mono HB1.out.size)
 have HB2 := hide (HB1.out.trans (hb2.mono HB1.out.size))
 clear ho2 hb2
 go_wp2
 go_ret
 exact ⟨_, rfl, HO2.out, HB2.out⟩

set_option maxHeartbeats 1000000 in
theorem headFrame_any {M I : Nat -> Prop} {p pd : Nat} {L : SLay} {s : Sto} (w : World) (h : StoL M I w p pd L s) (hn : NumS s) (hk : 0 <= s.now.st.kind ∧ s.now.st.kind < 6) (hx : s.next < 4611686018427387904) (hx0 : 0 <= s.next) :
   Calls Tryz.prog 55 #[ptr p] w fun e w' => ∃ v', e = .returned v' ∧ Own w' w.heap.size v' (frameOf (headS 3 s.now.st.kind.toNat s.next.toNat)) ∧ Below w.heap.size w w' := by
 have HH := hide h
 have HNX : Hid (∀ W, Below w.heap.size w W -> Calls Tryz.prog 16 #[ptr p] W fun e w' => e = .returned (.int .i64 s.next) ∧ Below w.heap.size w w') := hide (fun W hW => (nextS_any W (h.below hW) hn).mono (by
   rintro e w' ⟨rfl, hb⟩
   exact ⟨rfl, hW.trans (hb.mono hW.size)⟩))
 have HHD : Hid (∀ W, Below w.heap.size w W -> Calls Tryz.prog 100 #[.int .i64 3, .int .i64 s.now.st.kind, .int .i64 s.next] W fun e w' => ∃ v', e = .returned (.tuple #[v', .int .i64 0]) ∧ Own w' w.heap.size v' (frameOf (headS 3 s.now.st.kind.toNat s.next.toNat)) ∧ Below w.heap.size w w') := hide (fun W hW => by
   have hg := headG_any 3 s.now.st.kind s.next W
   have hho : HeadOk s.now.st.kind s.next := ⟨hk.1, hk.2, hx0, hx⟩
   have e1 : headErr 3 s.now.st.kind s.next = 0 := by unfold headErr; rw [if_pos (by decide), if_pos hho]
   have e2 : headL 3 s.now.st.kind s.next = frameOf (headS 3 s.now.st.kind.toNat s.next.toNat) := by unfold headL; rw [if_pos (by decide), if_pos hho]; rfl
   unfold Headed at hg
   rw [e1, e2] at hg
   refine hg.mono ?_
   rintro e w' ⟨v', rfl, ho, hb⟩
   exact ⟨v', rfl, ho.mono hW.size, hW.trans (hb.mono hW.size)⟩)
 have HKP : Hid (∀ W, Below w.heap.size w W -> W.cell? ⟨p, 6, none⟩ = some (.int .i64 s.now.st.kind)) := hide (fun W hW => by
   obtain ⟨-, -, -, -, -, ⟨-, c6, -⟩, -⟩ := (HH.out.below hW).cs
   exact c6)
 have HSD : Hid (Below w.heap.size w w.drew) := hide (Below.refl _ _).drew
 generalize frameOf (headS 3 s.now.st.kind.toNat s.next.toNat) = FB at *
 generalize s.now.st.kind = kd at *
 generalize s.next = nx at *
 clear h HH hn
 go_enter Tryz.func55, Tryz.ntmps55
 go_upto_region 1 with fail
 go_cut [3, 4] (fun v3 v4 wc => v4 = .int .i64 0 ∧ Hid (Own wc w.heap.size v3 FB) ∧ Hid (Below w.heap.size w wc))
 case first =>
   go_region_held (fun W => W.cell? ⟨p, 6, none⟩ = some (.int .i64 kd))
     (first | (with_reducible exact HKP.out _ HSD.out) | (with_reducible exact HKP.out _ HB1.out) | (with_reducible exact HKP.out _ HB2.out))
     (first
       | (go_at_call 16; refine (HNX.out _ HSD.out).mono ?_; rintro e W1 ⟨rfl, hb1⟩; have HB1 := hide hb1; clear hb1)
       | (go_at_call 100; refine (HHD.out _ HB1.out).mono ?_; rintro e W2 ⟨v2, rfl, ho2, hb2⟩; have HO2 := hide ho2; have HB2 := hide hb2; clear ho2 hb2))
   all_goals
     go_wp2_with fail
     go_meet
     exact ⟨rfl, HO2, HB2⟩
 case rest =>
   obtain ⟨rfl, HO, HB⟩ := hcut
   go_wp2
   go_ret
   exact ⟨_, rfl, HO.out, HB.out⟩

end Go.Proofs.YtpopbandpnaicaaGreatDoor
