import Derived.Test.YtpopbandpnaicaaGreatDoorStoreJ
import Derived.Test.YtpopbandpnaicaaGreatDoorStoreK
namespace Go.Proofs.YtpopbandpnaicaaGreatDoor
open Go.RowKit

theorem encB_lenS {l : List Rec} (h : FitsB l) : (encB l).length <= 20000 := by
 obtain ⟨h1, h2, h3, h4⟩ := h
 have hr := encRs_len8 l [] (fun r hr => by cases hr) h3
 unfold encB
 rw [List.length_append, List.length_append]
 have hd : FitsR (l.headD zeroR) := by
   match l, h1 with
   | r :: t, _ => exact h3 r List.mem_cons_self
 have q1 : (Lib.uvarint (l.headD zeroR).idx.toNat).length <= 10 := uv10' (by have := hd.2.2.1; omega)
 have q2 : (Lib.uvarint l.length).length <= 10 := uv10' (by omega)
 omega

theorem bytesA_len {s : Sto} {l : List Rec} (h : FitsB l) (hk : 0 <= s.now.st.kind ∧ s.now.st.kind < 6) (hx : s.next < 4611686018427387904) : (bytesA s l).length <= 30000 := by
 have h1 := encB_lenS h
 have h2 := frameOf_length (encB l)
 have h3 := frameOf_length (headS 3 s.now.st.kind.toNat s.next.toNat)
 have h4 := headS_len (v := 3) (k := s.now.st.kind.toNat) (f := s.next.toNat) (by decide) (by omega) (by omega)
 have q1 : (Lib.uvarint (encB l).length).length <= 10 := uv10' (by omega)
 have q2 : (Lib.uvarint (headS 3 s.now.st.kind.toNat s.next.toNat).length).length <= 10 := uv10' (by omega)
 unfold bytesA
 split
 · rw [List.length_append]
   omega
 · omega

theorem nextName_i64 {d : Dk} (h : OkD d) (first : Int) (h1 : 0 <= first) (h2 : first <= 1000) : I64 (nextName d first) := by
 have hb : ∀ n ∈ sortD (namesD d) first, 0 <= n ∧ n < 1048576 := fun n hn => names_i64 h n (List.mem_filter.1 hn).1
 unfold nextName
 generalize sortD (namesD d) first = l at hb ⊢
 by_cases h0 : l.length = 0
 · rw [List.eq_nil_of_length_eq_zero h0]
   show I64 (first - 2 + 2)
   exact ⟨by omega, by omega⟩
 · have e : l.getD (l.length - 1) (first - 2) = l[l.length - 1]'(by omega) := by simp [List.getD, show l.length - 1 < l.length by omega]
   have := hb _ (List.getElem_mem (show l.length - 1 < l.length by omega))
   rw [e]
   exact ⟨by omega, by omega⟩

theorem RdR.keepK {w w' : World} {v : Value} {l : List Rec} {K : Nat -> Prop} (h : RdR w v l) (hv : l = [] ∨ ∀ k, v.ownBlock = some k -> K k) (ho : Only (fun k => ¬ K k) w w') : RdR w' v l := by
 obtain ⟨ao, cap, rfl, h2, h3, h4, h5, h6⟩ := h
 refine ⟨ao, cap, rfl, h2, h3, h4, h5, ?_⟩
 rcases hv with hv | hv
 · exact .inl hv
 rcases h6 with h6 | ⟨b, off, rfl, h7⟩
 · exact .inl h6
 · exact .inr ⟨b, off, rfl, fun j hj => (h7 j hj).keep (ho.block b (h7 j hj).lt (fun hn => hn (hv b rfl)))⟩

theorem SD.takes {K : Nat -> Prop} {w : World} {pd p : Nat} {s : Sto} {d : Dk} {N T : Nat} (h : SD K w pd p s d N T) (hK : ∀ k, K k -> k < w.heap.size) (hs : SnS s.now) (vl : Value) (l : List Rec) (hr : RdR w vl l) (hll : l.length <= 1000000) :
   ∃ la ln lc ta tn tc, (w.cell? ⟨p, 5, none⟩ = some (.int .i64 s.now.idx) ∧ w.cell? ⟨p, 6, none⟩ = some (.int .i64 s.now.st.kind) ∧ w.cell? ⟨p, 7, none⟩ = some (.slice la ln lc) ∧ w.cell? ⟨p, 8, none⟩ = some (.bool s.now.st.shut) ∧ w.cell? ⟨p, 9, none⟩ = some (.int .i64 s.now.st.eng) ∧ w.cell? ⟨p, 10, none⟩ = some (.slice ta tn tc)) ∧
     Calls Tryz.prog 17 #[.agg #[.int .i64 s.now.idx, .int .i64 s.now.st.kind, .slice la ln lc, .bool s.now.st.shut, .int .i64 s.now.st.eng, .slice ta tn tc], vl] w fun e w' =>
       ∃ xa xn xc ua un uc, e = .returned (.tuple #[.agg #[.int .i64 (takeN s.now l).1.idx, .int .i64 (takeN s.now l).1.st.kind, .slice xa xn xc, .bool (takeN s.now l).1.st.shut, .int .i64 (takeN s.now l).1.st.eng, .slice ua un uc], .int .i64 (takeN s.now l).2]) ∧
         (w'.cell? ⟨p, 5, none⟩ = some (.int .i64 s.now.idx) ∧ w'.cell? ⟨p, 6, none⟩ = some (.int .i64 s.now.st.kind) ∧ w'.cell? ⟨p, 7, none⟩ = some (.slice la ln lc) ∧ w'.cell? ⟨p, 8, none⟩ = some (.bool s.now.st.shut) ∧ w'.cell? ⟨p, 9, none⟩ = some (.int .i64 s.now.st.eng) ∧ w'.cell? ⟨p, 10, none⟩ = some (.slice ta tn tc)) ∧ (∀ j, w'.frozen? ⟨p, j, none⟩ = false) ∧
         SD K (sixAt w' p 5 (.int .i64 (takeN s.now l).1.idx) (.int .i64 (takeN s.now l).1.st.kind) (.slice xa xn xc) (.bool (takeN s.now l).1.st.shut) (.int .i64 (takeN s.now l).1.st.eng) (.slice ua un uc)) pd p { s with now := (takeN s.now l).1 } d N T ∧
         Only (fun k => ¬ K k) w (sixAt w' p 5 (.int .i64 (takeN s.now l).1.idx) (.int .i64 (takeN s.now l).1.st.kind) (.slice xa xn xc) (.bool (takeN s.now l).1.st.shut) (.int .i64 (takeN s.now l).1.st.eng) (.slice ua un uc)) := by
 obtain ⟨F, M, I, L, h1, h2, h3, h4, h5, h6, h7⟩ := h
 obtain ⟨la, ln, lc, ta, tn, tc, e1, e2⟩ := h2.now.shape
 have e1' : L.nl = .slice la ln lc := e1
 have e2' : L.nt = .slice ta tn tc := e2
 have hcs : ∀ W, Below w.heap.size w W -> (W.cell? ⟨p, 5, none⟩ = some (.int .i64 s.now.idx) ∧ W.cell? ⟨p, 6, none⟩ = some (.int .i64 s.now.st.kind) ∧ W.cell? ⟨p, 7, none⟩ = some (.slice la ln lc) ∧ W.cell? ⟨p, 8, none⟩ = some (.bool s.now.st.shut) ∧ W.cell? ⟨p, 9, none⟩ = some (.int .i64 s.now.st.eng) ∧ W.cell? ⟨p, 10, none⟩ = some (.slice ta tn tc)) := fun W hW => by
   obtain ⟨-, -, -, -, -, ⟨c5, c6, c7, c8, c9, c10⟩, -⟩ := (h2.below hW).cs
   rw [e1'] at c7
   rw [e2'] at c10
   exact ⟨c5, c6, c7, c8, c9, c10⟩
 refine ⟨la, ln, lc, ta, tn, tc, hcs w (Below.refl _ _), ?_⟩
 have hsv := h2.now.snV
 have hagg : snV (L.nx s) = .agg #[.int .i64 s.now.idx, .int .i64 s.now.st.kind, .slice la ln lc, .bool s.now.st.shut, .int .i64 s.now.st.eng, .slice ta tn tc] := by
   unfold snV snC SLay.nx
   dsimp only
   rw [e1', e2']
 rw [hagg] at hsv
 have hL : s.now.st.L.length <= 1000 := by have := may_len hs.1; omega
 have hT : s.now.tab.length <= 1000 := by have := hs.2.few; omega
 refine (takeP_any (P := SnS) (fun S r hS hf => hS.next hf) (fun S hS => by have := hS.2.few; omega) _ _ _ _ _ _ s.now vl l w hsv hr hL hT (by omega) hs).mono ?_
 rintro e w' ⟨vx, vu, rfl, r1, r2, r3, r4, r5, g1, g2, hb⟩
 obtain ⟨xa, xc, hx, -⟩ := id r1
 obtain ⟨ua, uc, hu⟩ := r4.shape
 have hS : SnR w' ((takeN s.now l).1, vx, vu) := ⟨r1, r4, r2, r3, r5⟩
 have hin : SnIn (fun k => I k ∨ (w.heap.size <= k ∧ k < w'.heap.size)) ((takeN s.now l).1, vx, vu) := by
   refine ⟨?_, ?_⟩
   · rcases r1.block with hb0 | ⟨hne, k, hk, hlt⟩
     · exact .inl hb0
     · rcases g1 with g1 | g1
       · rcases h2.inow.1 with hi | hi
         · obtain ⟨a2, c2, h9, -⟩ := h2.now.l
           have h9' : L.nl = .slice a2 s.now.st.L.length c2 := h9
           have hi' : s.now.st.L = [] := hi
           rw [hi'] at h9'
           rw [hx] at g1
           rw [e1'] at h9'
           injection g1 with _ g1 _
           injection h9' with _ h9' _
           exact .inl (List.eq_nil_of_length_eq_zero (by rw [g1, h9']; rfl))
         · refine .inr fun g hg => .inl (hi g ?_)
           show L.nl.ownBlock = some g
           rw [e1', <- g1]
           exact hg
       · refine .inr fun g hg => .inr ⟨g1 g hg, ?_⟩
         rw [hg] at hk
         obtain rfl := Option.some.inj hk
         exact hlt
   · rcases g2 with ⟨rfl, g2⟩ | g2
     · rcases h2.inow.2 with hi | hi
       · exact .inl hi
       · refine .inr fun g hg => .inl (hi g ?_)
         show L.nt.ownBlock = some g
         rw [e2', <- g2]
         exact hg
     · exact .inr fun g hg => .inr (World.ownsRow.lt g2 g hg)
 have hfin := SD.setNow hK h1 h2 h3 h4 h5 h6 h7 hb ((takeN s.now l).1, vx, vu) hS hin
 dsimp only at hfin
 subst hx hu
 exact ⟨xa, _, xc, ua, _, uc, rfl, hcs w' hb, fun j => (h2.below hb).fz j, hfin.1, hfin.2⟩

end Go.Proofs.YtpopbandpnaicaaGreatDoor
