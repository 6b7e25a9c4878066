import Derived.Test.YtpopbandpnaicaaGreatDoorSnapDecB
import Derived.Test.YtpopbandpnaicaaGreatDoorRef09G
import Derived.Test.YtpopbandpnaicaaGreatDoorPack5
namespace Go.Proofs.YtpopbandpnaicaaGreatDoor
open Go.RowKit

def leftM (v6 v7 : Value) : Nat :=
 match v7 with
 | .bool true => (match v6 with
   | .slice _ n _ => n + 1
   | _ => 0)
 | _ => 0

theorem step1_less {b : List UInt8} {y : Ent × List UInt8} (h : step1 b = some y) : y.2.length + 1 <= b.length := by
 unfold step1 at h
 rw [getsL_two] at h
 split at h
 · cases h
 · rename_i ns l hg
   split at hg
   · cases hg
   · rename_i h1
     split at hg
     · cases hg
     · injection hg with hg
       injection hg with _ hl
       split at h
       · cases h
       · rename_i h3
         injection h with h
         rw [<- h]
         have h4 := dec64_le l
         show (l.drop _).length + 1 <= _
         rw [List.length_drop]
         have h5 : l.length <= b.length := by
           rw [<- hl, List.length_drop, List.length_drop]
           omega
         omega

theorem two_new' (w : World) (x y : Obj) : ((w.alloc x).alloc y).heap[w.heap.size]? = some x ∧ ((w.alloc x).alloc y).heap[w.heap.size + 1]? = some y := by
 refine ⟨(Below.heap_alloc _ _ _ (by simp)).trans (heap_alloc_new w x), ?_⟩
 have := heap_alloc_new (w.alloc x) y
 simpa using this

theorem getsL_some1 {b : List UInt8} {ns : List Nat} {l : List UInt8} (h : getsL 1 b = some (ns, l)) : (dec62 b).2 ≠ 0 ∧ ns = [(dec62 b).1] ∧ l = b.drop (dec62 b).2 := by
 rw [getsL_one] at h
 split at h
 · cases h
 · rename_i h1
   injection h with h
   injection h with h2 h3
   exact ⟨h1, h2.symm, h3.symm⟩

theorem getsL_none1 {b : List UInt8} (h : getsL 1 b = none) : (dec62 b).2 = 0 := by
 rw [getsL_one] at h
 split at h
 · assumption
 · cases h

theorem OwnE.butD {w w' : World} {B R T : Nat} {v : Value} {l : List Ent} (h : OwnE w B v l) (hb : But R T w w') (hn' : ∀ b, v.ownBlock = some b -> b ≠ R ∧ b ≠ T) : OwnE w' B v l := by
 rcases h.row with ⟨rfl, rfl⟩ | ⟨g, cap, cur, rfl, hBg, hlt, hg, hn, hm, hs, hc⟩
 · exact OwnE.nil _ _
 · have := hn' g rfl
   exact OwnE.ofRow rfl hBg ((hb.block g hlt this.1 this.2).trans hg) hn hm hs hc

set_option maxRecDepth 100000 in
set_option maxHeartbeats 4000000 in
theorem readTable_any (v : Value) (b : List UInt8) (w : World) (hr : Rd w v b) (hlim : b.length <= 100000) :
   Calls Tryz.prog 168 #[v] w fun e w' => TabledN w (tableL b) e w' := by
 obtain ⟨W0, hW0⟩ : ∃ W0, W0 = (w.alloc (.cells #[.int .i64 0] 3)).alloc (.cells #[.pointer (some ⟨w.heap.size, 0, none⟩)] 210) := ⟨_, rfl⟩
 have h2 := two_new' w (.cells #[.int .i64 0] 3) (.cells #[.pointer (some ⟨w.heap.size, 0, none⟩)] 210)
 rw [<- hW0] at h2
 obtain ⟨hA, hC⟩ := h2
 have HB0 : Hid (Below w.heap.size w W0) := hide (by rw [hW0]; exact ((Below.refl _ _).alloc (Nat.le_refl _) _).alloc (by simp) _)
 have HGN := hide (getNumbers_any (w.heap.size + 1) [(w.heap.size, 0)] v b W0 (hr.below HB0.out (Nat.le_refl _)) (fun p hp => by
   rw [List.mem_singleton.1 hp]
   exact ⟨⟨⟨0, cell_of_row W0 w.heap.size 0 _ _ _ hA⟩, frozen_of_row W0 w.heap.size 0 _ _ hA⟩, by simp⟩) (by simp) hC 1 rfl)
 have HSA : Hid (∀ n : Nat, (W0.setCell ⟨w.heap.size, 0, none⟩ (.int .i64 (n : Int))).cell? ⟨w.heap.size, 0, none⟩ = some (.int .i64 (n : Int))) := hide (fun n => World.cell?_setCell_same _ _ _ (cell_of_row W0 w.heap.size 0 _ _ _ hA))
 have HSB : Hid (∀ ns, Below w.heap.size w (setAt W0 ([(w.heap.size, 0)].take (List.length ns)) ns)) := hide (fun ns => setAt_below W0 _ ns _ w (fun p hp => by
   have := List.mem_of_mem_take hp
   rw [List.mem_singleton.1 this]
   exact Nat.le_refl _) HB0.out)
 have HGE := hide (fun v1 l W h => getEntry_any v1 l W h)
 have HTP := hide (tableL_plain (b := b))
 have HTN : Hid ((dec62 b).2 = 0 -> tableL b = none) := hide (fun h => by unfold tableL; rw [if_pos (.inl h)])
 have HG1 := hide (fun ns l h => getsL_some1 (b := b) (ns := ns) (l := l) h)
 have HG0 := hide (fun h => getsL_none1 (b := b) h)
 have hd := dec62_le b
 have hdn : (dec62 b).1 < 4611686018427387904 := by
   rcases dec62_cases b with h | h
   · rw [h]; decide
   · exact h.1
 have HLEN : Hid ([(w.heap.size, 0)].length = 1) := hide rfl
 rw [HLEN.out] at HGN
 generalize getsL 1 b = GL at *
 obtain ⟨TL, hTL⟩ : ∃ TL, TL = tableL b := ⟨_, rfl⟩
 rw [<- hTL] at HTP HTN ⊢
 clear hTL
 have HRW := hide hr
 obtain ⟨va, vc, hv⟩ : ∃ a c, v = .slice a b.length c := by obtain ⟨a, c, h, -⟩ := hr; exact ⟨a, c, h⟩
 subst hv
 clear hr hA hC HLEN
 go_enter Tryz.func168, Tryz.ntmps168
 go_wp2_with fail
 rw [<- hW0]
 refine HGN.out.mono ?_
 rintro e W1 ⟨v1, l, ns, rfl, hr1, hn1, hs1, hlt1, hle1, hal1⟩
 have HB1 : Hid (Below w.heap.size w W1) := hide ((HSB.out ns).trans (hal1.below _))
 have HV1 := hide hr1
 obtain ⟨a1, c1, hv1⟩ : ∃ a c, v1 = .slice a l.length c := by obtain ⟨a, c, h, -⟩ := hr1 W1 (HRW.out.below HB1.out (Nat.le_refl _)); exact ⟨a, c, h⟩
 subst hv1
 clear HGN HSB HB0 hW0
 cases GL with
 | none =>
   have HF := hide (HTN.out (HG0.out rfl))
   have hl0 := hn1 rfl
   subst hl0
   clear hn1 hs1 hlt1 hle1 hal1 HTP HTN HG0 HG1
   show _
   go_wp2
   go_loopw [4, 6, 7] (fun v4 v6 v7 wr => v4 = .slice none 0 0 ∧ v7 = .bool false ∧ Hid (Below w.heap.size w wr)) (fun _ v6 v7 _ => leftM v6 v7)
   case atStart => exact ⟨rfl, rfl, HB1⟩
   case round =>
     obtain ⟨rfl, rfl, hB⟩ := hrel
     go_wp2
     go_ret2
     rw [HF.out]
     exact ⟨_, [], rfl, OwnE.nil _ _, (fun r h => by simp at h), (fun t h => by cases h), hB.out⟩
 | some gp =>
   have := hs1 gp rfl
   subst this
   obtain ⟨g1, g2, g3⟩ := HG1.out _ _ rfl
   subst g2
   have HFT := hide (HTP.out g1)
   rw [<- g3] at HFT
   have hll : l.length <= b.length := by rw [g3, List.length_drop]; omega
   have hcell : W1.cell? ⟨w.heap.size, 0, none⟩ = some (.int .i64 ((dec62 b).1 : Int)) := by
     rw [hal1.cell]
     exact HSA.out _
   have HCELL := hide hcell
   have hlt0 : w.heap.size < W1.heap.size := World.block_lt_of_cell? W1 ⟨w.heap.size, 0, none⟩ hcell
   generalize (dec62 b).1 = many at *
   clear hn1 hs1 hlt1 hle1 hal1 HTP HTN HG0 HG1 g1 g3 hd HSA hcell
   obtain ⟨RE, hRE⟩ : ∃ RE, RE = readE many l := ⟨_, rfl⟩
   rw [<- hRE] at HFT
   have HRE0 : Hid (RE = (readE (many - 0) l).map (fun r => ([] ++ r.1, r.2))) := hide (by
     rw [hRE, Nat.sub_zero]
     cases readE many l <;> rfl)
   clear hRE
   go_wp2
   go_loopw [4, 6, 7] (fun v4 v6 v7 wr => ∃ (t : List Ent) (l2 : List UInt8) (a2 : Option Addr) (c2 : Nat) (th : Bool), v6 = .slice a2 l2.length c2 ∧ v7 = .bool th ∧ t.length <= b.length + 1 ∧ Hid (th = true -> t.length + l2.length <= b.length ∧ t.length <= many) ∧ Hid (OwnE wr W1.heap.size v4 t) ∧ Hid (∀ e ∈ t, EntI e) ∧ Hid (∀ W, Rd W (.slice va b.length vc) b -> Rd W (.slice a2 l2.length c2) l2) ∧ Hid (th = true -> RE = (readE (many - t.length) l2).map (fun r => (t ++ r.1, r.2))) ∧ Hid (th = false -> RE = none) ∧ Hid (Below W1.heap.size W1 wr)) (fun _ v6 v7 _ => leftM v6 v7)
   case atStart => exact ⟨[], l, a1, c1, true, rfl, rfl, by simp, hide (fun _ => ⟨by simp; omega, Nat.zero_le _⟩), hide (OwnE.nil _ _), hide (fun e h => by simp at h), HV1, hide (fun _ => HRE0.out), hide (fun h => by cases h), Below.refl _ _⟩
   case round =>
     clear HRE0 HV1
     obtain ⟨t, l2, a2, c2, th, rfl, rfl, hlen, hL, hO, hI, hV, hT, hN, hB⟩ := hrel
     have hR : Hid (Rd wr (.slice a2 l2.length c2) l2) := hide (hV.out wr ((HRW.out.below HB1.out (Nat.le_refl _)).below hB.out (Nat.le_refl _)))
     obtain ⟨oa, oc, hov⟩ := hO.out.shape
     subst hov
     have hcw : wr.cell? ⟨w.heap.size, 0, none⟩ = some (.int .i64 (many : Int)) := (hB.out.cell (p := ⟨w.heap.size, 0, none⟩) hlt0).trans HCELL.out
     cases th with
     | false =>
       have HF : Hid (TL = none) := hide (by rw [HFT.out, hN.out rfl]; rfl)
       go_wp2
       go_ret2
       rw [HF.out]
       exact ⟨_, t, rfl, hO.out.mono HB1.out.size, hI.out, (fun t h => by cases h), HB1.out.trans (hB.out.mono HB1.out.size)⟩
     | true =>
       obtain ⟨hlen2, htm⟩ := hL.out rfl
       by_cases hlt : t.length < many
       case neg =>
         have hni : ¬ (t.length : Int) < (many : Int) := by omega
         have HT2 : Hid (RE = some (t, l2)) := hide (by
           rw [hT.out rfl, show many - t.length = 0 by omega]
           simp [readE])
         have HTL : Hid (TL = if l2 = [] then some t else none) := hide (by rw [HFT.out, HT2.out]; rfl)
         by_cases hl2 : l2.length = 0
         · have HF : Hid (TL = some t) := hide (by rw [HTL.out, if_pos (List.eq_nil_of_length_eq_zero hl2)])
           have hbe : ((l2.length : Int) == 0) = true := by rw [beq_iff_eq]; omega
           clear hl2
           go_wp2
           go_ret2
           rw [HF.out]
           exact ⟨_, t, rfl, hO.out.mono HB1.out.size, hI.out, (fun t' h => by injection h), HB1.out.trans (hB.out.mono HB1.out.size)⟩
         · have HF : Hid (TL = none) := hide (by
             rw [HTL.out, if_neg (fun e => hl2 (by rw [e]; rfl))])
           have hbe : ((l2.length : Int) == 0) = false := beq_eq_false_iff_ne.2 (by omega)
           clear hl2
           go_wp2
           go_ret2
           rw [HF.out]
           exact ⟨_, t, rfl, hO.out.mono HB1.out.size, hI.out, (fun t' h => by cases h), HB1.out.trans (hB.out.mono HB1.out.size)⟩
       have hti : (t.length : Int) < (many : Int) := by omega
       have hsub : many - t.length = (many - (t.length + 1)) + 1 := by omega
       have HT1 : Hid (RE = ((step1 l2).bind (fun y => (readE (many - (t.length + 1)) y.2).map (fun r => (y.1 :: r.1, r.2)))).map (fun r => (t ++ r.1, r.2))) := hide (by
         rw [hT.out rfl, hsub, readE_step1])
       have HLS := hide (fun y h => step1_less (b := l2) (y := y) h)
       have HGQ := hide (HGE.out _ l2 (wr.alloc (.cells #[.int .i64 0, .int .i64 0, .int .i64 0] 88)) (hR.out.below ((Below.refl _ _).alloc (Nat.le_refl _) _) (Nat.le_refl _)))
       have HBA : Hid (Below W1.heap.size W1 (wr.alloc (.cells #[.int .i64 0, .int .i64 0, .int .i64 0] 88))) := hide (hB.out.alloc hB.out.size _)
       have HEA : Hid (Be (wr.alloc (.cells #[.int .i64 0, .int .i64 0, .int .i64 0] 88)) wr.heap.size #[.int .i64 0, .int .i64 0, .int .i64 0]) := hide (heap_alloc_new wr _)
       have HOA : Hid (OwnE (wr.alloc (.cells #[.int .i64 0, .int .i64 0, .int .i64 0] 88)) W1.heap.size (.slice oa t.length oc) t) := hide (hO.out.below ((Below.refl _ _).alloc (Nat.le_refl _) _) (Nat.le_refl _))
       have HOB : Hid (∀ k, (Value.slice oa t.length oc).ownBlock = some k -> k < wr.heap.size) := hide (fun k hk => (World.ownsRow.lt hO.out k hk).2)
       obtain ⟨SS, hSS⟩ : ∃ SS, SS = step1 l2 := ⟨_, rfl⟩
       unfold GotE at HGQ
       rw [<- hSS] at HT1 HLS HGQ
       have hszr := hB.out.size
       clear hSS hT hN hL hR hO hB hsub
       go_wp2_with fail
       refine HGQ.out.mono ?_
       rintro e W2 ⟨x, v2, l3, rfl, hxi, hr2, hs2, hb2⟩
       have HE2 := hide (HEA.out.below hb2 (Nat.le_refl _))
       have HB2 := hide (HBA.out.trans (hb2.mono HBA.out.size))
       have HO2 := hide (HOA.out.below hb2 (Nat.le_refl _))
       have HXI := hide hxi
       have HV2 := hide (fun W h => hr2 W (hV.out W h))
       obtain ⟨a3, c3, hv2⟩ : ∃ a c, v2 = .slice a l3.length c := by obtain ⟨a, c, h, -⟩ := HV2.out W1 (HRW.out.below HB1.out (Nat.le_refl _)); exact ⟨a, c, h⟩
       subst hv2
       obtain ⟨xp, xq, xr⟩ := x
       obtain ⟨e0, f0⟩ := HE2.out.cell 0
       obtain ⟨e1, f1⟩ := HE2.out.cell 1
       obtain ⟨e2, f2⟩ := HE2.out.cell 2
       obtain ⟨QB, hQB⟩ : ∃ QB, QB = wr.heap.size := ⟨_, rfl⟩
       rw [<- hQB] at HE2 HOB e0 e1 e2 f0 f1 f2 hszr ⊢
       clear hQB
       obtain ⟨W3, hW3⟩ : ∃ W3, W3 = ((W2.setCell ⟨QB, 0, none⟩ (.int .i64 xp)).setCell ⟨QB, 1, none⟩ (.int .i64 xq)).setCell ⟨QB, 2, none⟩ (.int .i64 xr) := ⟨_, rfl⟩
       have HE3 : Hid (Be W3 QB #[.int .i64 xp, .int .i64 xq, .int .i64 xr]) := hide (by rw [hW3]; exact ((HE2.out.set 0 _).set 1 _).set 2 _)
       have HBT : Hid (But QB QB W2 W3) := hide (by rw [hW3]; exact (((But.refl _ _ _).set _ _ (.inl rfl) _).set _ _ (.inl rfl) _).set _ _ (.inl rfl) _)
       have HO3 : Hid (OwnE W3 W1.heap.size (.slice oa t.length oc) t) := hide (HO2.out.butD HBT.out (fun k hk => by have := HOB.out k hk; omega))
       have HB3 := hide (below_but HB2.out HBT.out HB2.out.size hszr hszr)
       have hs3 : W1.heap.size <= W3.heap.size := HB3.out.size
       unfold entV
       dsimp only
       go_upto_region 7 with fail
       rw [<- hW3]
       obtain ⟨x0, -⟩ := HE3.out.cell 0
       obtain ⟨x1, -⟩ := HE3.out.cell 1
       obtain ⟨x2, -⟩ := HE3.out.cell 2
       clear hW3 e0 e1 e2 f0 f1 f2 hxi hr2 hb2 HE2 HB2 HO2 HGQ HBA HEA HOA HOB HBT
       go_wp2_with (at_builtin; refine wpList_append_ent _ rfl _ _ rfl W1.heap.size _ t rfl HO3.out ⟨xp, xq, xr⟩ rfl (by omega) hs3 ?_)
       intro v5 W5 ho5 hb5
       have HO5 := hide ho5
       have HB5 := hide (HB3.out.trans hb5)
       have HI5 : Hid (∀ e ∈ t ++ [(⟨xp, xq, xr⟩ : Ent)], EntI e) := hide (fun e he => by
         rcases List.mem_append.1 he with h | h
         · exact hI.out e h
         · rw [List.mem_singleton.1 h]; exact HXI.out)
       clear ho5 hb5
       cases SS with
       | none =>
         have HF : Hid (RE = none) := hide (by rw [HT1.out]; rfl)
         go_wp2
         go_roundw
         case rel => exact ⟨t ++ [⟨xp, xq, xr⟩], l3, a3, c3, false, rfl, rfl, by simp; omega, hide (fun h => by cases h), HO5, HI5, HV2, hide (fun h => by cases h), hide (fun _ => HF.out), HB5⟩
         case measure => show 0 < l2.length + 1; omega
       | some y =>
         have hy := hs2 y rfl
         subst hy
         have hless := HLS.out _ rfl
         dsimp only at hless
         have HF : Hid (RE = (readE (many - (t ++ [(⟨xp, xq, xr⟩ : Ent)]).length) l3).map (fun r => ((t ++ [⟨xp, xq, xr⟩]) ++ r.1, r.2))) := hide (by
           rw [HT1.out, List.length_append, List.length_singleton, Option.bind_some]
           cases readE (many - (t.length + 1)) l3 with
           | none => rfl
           | some r => simp)
         go_wp2
         go_roundw
         case rel => exact ⟨t ++ [⟨xp, xq, xr⟩], l3, a3, c3, true, rfl, rfl, by simp; omega, hide (fun _ => ⟨by simp; omega, by simp; omega⟩), HO5, HI5, HV2, hide (fun _ => HF.out), hide (fun h => by cases h), HB5⟩
         case measure => show l3.length + 1 < l2.length + 1; omega

end Go.Proofs.YtpopbandpnaicaaGreatDoor
