import Derived.Test.YtpopbandpnaicaaGreatDoorPack5
import Derived.Test.YtpopbandpnaicaaGreatDoorPack4
import Derived.Test.YtpopbandpnaicaaGreatDoorCodecNext
namespace Go.Proofs.YtpopbandpnaicaaGreatDoor
open Go.RowKit

def Alike (X W : World) : Prop := W.heap = X.heap ∧ W.os = X.os ∧ W.tape = X.tape ∧ W.output = X.output

theorem Alike.refl (X : World) : Alike X X := ⟨rfl, rfl, rfl, rfl⟩

theorem Alike.drew {X W : World} (h : Alike X W) : Alike X W.drew := h

theorem Alike.set {X W : World} (h : Alike X W) (a : Addr) (v : Value) : Alike (X.setCell a v) (W.setCell a v) := by
 obtain ⟨h1, h2, h3, h4⟩ := h
 refine ⟨?_, h2, h3, h4⟩
 simp only [World.setCell, h1]

theorem Alike.below {X W : World} (h : Alike X W) (B : Nat) : Below B X W := ⟨h.2.1, h.2.2.1, h.2.2.2, by rw [h.1]; exact Nat.le_refl _, fun k _ => by rw [h.1]⟩

theorem Alike.cell {X W : World} (h : Alike X W) (a : Addr) : W.cell? a = X.cell? a := by simp only [World.cell?, h.1]

theorem Alike.froz {X W : World} (h : Alike X W) (a : Addr) : W.frozen? a = X.frozen? a := by simp only [World.frozen?, h.1]

def NumAt (w : World) (p : Nat × Nat) : Prop := (∃ x : Int, w.cell? ⟨p.1, p.2, none⟩ = some (.int .i64 x)) ∧ w.frozen? ⟨p.1, p.2, none⟩ = false

theorem NumAt.set {w : World} {p : Nat × Nat} (h : NumAt w p) (p' : Nat × Nat) (n : Int) : NumAt (w.setCell ⟨p'.1, p'.2, none⟩ (.int .i64 n)) p := by
 obtain ⟨⟨x, h1⟩, h2⟩ := h
 refine ⟨?_, by rw [World.frozen?_setCell]; exact h2⟩
 by_cases e : (⟨p'.1, p'.2, none⟩ : Addr) = ⟨p.1, p.2, none⟩
 · rw [e]
   exact ⟨n, World.cell?_setCell_same _ _ _ h1⟩
 · exact ⟨x, by rw [World.cell?_setCell_other _ _ _ _ (fun h => e h)]; exact h1⟩

theorem Rd.setNum {w : World} {v : Value} {m : List UInt8} (h : Rd w v m) {p : Nat × Nat} (hp : NumAt w p) (x : Value) : Rd (w.setCell ⟨p.1, p.2, none⟩ x) v m := by
 obtain ⟨va, vc, h1, h2, h3, hn, h4⟩ := h
 refine ⟨va, vc, h1, h2, h3, hn, ?_⟩
 rcases h4 with h4 | ⟨c, off, h5, h6⟩
 · exact .inl h4
 · refine .inr ⟨c, off, h5, fun j hj => ?_⟩
   have hc := h6 j hj
   rw [World.cell?_setCell_other w ⟨p.1, p.2, none⟩ ⟨c, off + j, none⟩ x (fun e => by
     obtain ⟨⟨y, hy⟩, -⟩ := hp
     rw [e, hc] at hy
     cases hy)]
   exact hc

def setAt (w : World) : List (Nat × Nat) -> List Nat -> World
 | p :: ps, n :: ns => setAt (w.setCell ⟨p.1, p.2, none⟩ (.int .i64 (n : Int))) ps ns
 | _, _ => w

theorem setAt_snoc : ∀ (w : World) (ps : List (Nat × Nat)) (ns : List Nat) (p : Nat × Nat) (n : Nat), ps.length = ns.length -> setAt w (ps ++ [p]) (ns ++ [n]) = (setAt w ps ns).setCell ⟨p.1, p.2, none⟩ (.int .i64 (n : Int))
 | w, [], [], p, n, _ => rfl
 | w, q :: ps, m :: ns, p, n, h => by
   rw [List.cons_append, List.cons_append, setAt, setAt_snoc _ ps ns p n (by simpa using h), setAt]

theorem setAt_num : ∀ (w : World) (ps : List (Nat × Nat)) (ns : List Nat) {p : Nat × Nat}, NumAt w p -> NumAt (setAt w ps ns) p
 | w, [], _, p, h => by cases ‹List Nat› <;> exact h
 | w, q :: ps, [], p, h => h
 | w, q :: ps, m :: ns, p, h => by
   rw [setAt]
   exact setAt_num _ ps ns (h.set q m)

theorem setAt_block : ∀ (w : World) (ps : List (Nat × Nat)) (ns : List Nat) (k : Nat), (∀ p ∈ ps, p.1 ≠ k) -> (setAt w ps ns).heap[k]? = w.heap[k]?
 | w, [], ns, k, _ => by cases ns <;> rfl
 | w, q :: ps, [], k, _ => rfl
 | w, q :: ps, m :: ns, k, h => by
   rw [setAt, setAt_block _ ps ns k (fun p hp => h p (by simp [hp]))]
   exact Below.heap_setCell _ _ _ _ (fun e => h q (by simp) e.symm)

theorem setAt_below : ∀ (w : World) (ps : List (Nat × Nat)) (ns : List Nat) (B : Nat) (w0 : World), (∀ p ∈ ps, B <= p.1) -> Below B w0 w -> Below B w0 (setAt w ps ns)
 | w, [], ns, B, w0, _, h => by cases ns <;> exact h
 | w, q :: ps, [], B, w0, _, h => h
 | w, q :: ps, m :: ns, B, w0, hp, h => by
   rw [setAt]
   exact setAt_below _ ps ns B w0 (fun p h => hp p (by simp [h])) (h.setCell (hp q (by simp)) _)

def GotNs (w : World) (v : Value) (b : List UInt8) (ps : List (Nat × Nat)) (r : Option (List Nat × List UInt8)) (e : Ending) (w' : World) : Prop :=
 ∃ (v' : Value) (l : List UInt8) (ns : List Nat), e = .returned (.tuple #[v', .bool r.isSome]) ∧ (∀ W, Rd W v b -> Rd W v' l) ∧ (r = none -> l = []) ∧ (∀ x, r = some x -> x = (ns, l)) ∧ (∀ n ∈ ns, n < 4611686018427387904) ∧ ns.length <= ps.length ∧ Alike (setAt w (ps.take ns.length) ns) w'

theorem setAt_rd : ∀ (w : World) (ps : List (Nat × Nat)) (ns : List Nat) {v : Value} {m : List UInt8}, (∀ p ∈ ps, NumAt w p) -> Rd w v m -> Rd (setAt w ps ns) v m
 | w, [], ns, v, m, _, h => by cases ns <;> exact h
 | w, q :: ps, [], v, m, _, h => h
 | w, q :: ps, k :: ns, v, m, hp, h => by
   rw [setAt]
   exact setAt_rd _ ps ns (fun p hh => (hp p (by simp [hh])).set q k) (h.setNum (hp q (by simp)) _)

theorem cut_from (ao : Option Addr) (l : List UInt8) (cap : Nat) (hlc : l.length <= cap) (d : Nat) (hd : d <= l.length) :
   ∃ xa xc, (∀ W, (Instr.sliceAt 53 (.slice ao l.length cap) (some (.int .i64 (d : Int))) none none).run Tryz.prog W = .ok (.slice xa (l.drop d).length xc) W) ∧ ∀ W, Rd W (.slice ao l.length cap) l -> Rd W (.slice xa (l.drop d).length xc) (l.drop d) := by
 have hsl : ∃ xa xc, sliced ao d l.length cap 1 = .slice xa (l.length - d) xc := by
   unfold sliced
   exact ⟨_, _, rfl⟩
 obtain ⟨xa, xc, hsl⟩ := hsl
 refine ⟨xa, xc, fun W => ?_, fun W h => ?_⟩
 · rw [run_sliceAt_slice W 53 _ _ _ _ under_bytes, run_slice_l W 53 ao l.length cap under_bytes .i64 (d : Int) (by omega) (by omega), elem_bytes, size_u8, List.length_drop, <- hsl]
   rfl
 · rw [List.length_drop, <- hsl]
   have h2 := h.mid d l.length cap hd (Nat.le_refl _) hlc (Nat.le_refl _)
   rw [List.take_of_length_le (by simp)] at h2
   exact h2

theorem getsL_step {n : Nat} {b : List UInt8} (h : (dec62 b).2 ≠ 0) : getsL (n + 1) b = (getsL n (b.drop (dec62 b).2)).map (fun r => ((dec62 b).1 :: r.1, r.2)) := by rw [getsL, if_neg h]

theorem getsL_stop {n : Nat} {b : List UInt8} (h : (dec62 b).2 = 0) : getsL (n + 1) b = none := by rw [getsL, if_pos h]

set_option maxRecDepth 100000 in
set_option maxHeartbeats 4000000 in
theorem getNumbers_any (N : Nat) (ps : List (Nat × Nat)) (v : Value) (b : List UInt8) (w : World) (hr : Rd w v b) (hps : ∀ p ∈ ps, NumAt w p ∧ p.1 ≠ N) (hlim : ps.length <= 100)
   (hN : w.heap[N]? = some (.cells (ps.map (fun p => Value.pointer (some ⟨p.1, p.2, none⟩))).toArray 210 (0, 0))) (k : Nat) (hk : k = ps.length) :
   Calls Tryz.prog 163 #[v, .slice (some ⟨N, 0, none⟩) k k] w fun e w' => GotNs w v b ps (getsL ps.length b) e w' := by
 subst hk
 have HPS := hide hps
 have HN : Hid (∀ q, q < ps.length -> w.cell? ⟨N, q, none⟩ = some (.pointer (some ⟨(ps.getD q (0, 0)).1, (ps.getD q (0, 0)).2, none⟩))) := hide (fun q hq => by
   rw [cell_of_row w N q _ _ _ hN]
   simp [List.getD, hq])
 have HNS : Hid (∀ ns, (setAt w (ps.take (List.length ns)) ns).heap[N]? = w.heap[N]?) := hide (fun ns => setAt_block w _ ns N (fun p hp => (hps p (List.mem_of_mem_take hp)).2))
 have HG := hide (fun v1 l W h => get_any v1 l W h)
 have HR : Hid (∀ ns, Rd (setAt w (ps.take (List.length ns)) ns) v b) := hide (fun ns => setAt_rd w _ ns (fun p hp => (hps p (List.mem_of_mem_take hp)).1) hr)
 obtain ⟨va, vc, hv⟩ : ∃ a c, v = .slice a b.length c := by obtain ⟨a, c, h, -⟩ := hr; exact ⟨a, c, h⟩
 subst hv
 obtain ⟨GL, hGL⟩ : ∃ GL, GL = getsL ps.length b := ⟨_, rfl⟩
 rw [<- hGL]
 have HGL0 : Hid (GL = (getsL (ps.length - 0) b).map (fun r => ([] ++ r.1, r.2))) := hide (by
   rw [hGL, Nat.sub_zero]
   cases getsL ps.length b <;> rfl)
 clear hGL hps hr hN
 have hpi : (ps.length : Int) <= 100 := by omega
 go_enter Tryz.func163, Tryz.ntmps163
 go_wp2
 go_loopw [0, 12] (fun vb vi wr => ∃ (q : Nat) (ns : List Nat) (b' : List UInt8) (a : Option Addr) (c : Nat), vi = .int .i64 (q : Int) ∧ vb = .slice a b'.length c ∧ q <= ps.length ∧ ns.length = q ∧ Hid (∀ W, Rd W (.slice va b.length vc) b -> Rd W (.slice a b'.length c) b') ∧ Hid (Alike (setAt w (ps.take ns.length) ns) wr) ∧ Hid (∀ n ∈ ns, n < 4611686018427387904) ∧ Hid (GL = (getsL (ps.length - q) b').map (fun r => (ns ++ r.1, r.2)))) (fun _ vi _ => ps.length - (intOf vi).toNat)
 case atStart => exact ⟨0, [], b, va, vc, rfl, rfl, Nat.zero_le _, rfl, hide (fun W h => h), hide (by rw [List.length_nil, List.take_zero]; exact Alike.refl w), hide (fun n h => by simp at h), HGL0⟩
 case round =>
   clear HGL0
   obtain ⟨q, ns, b', a, c, rfl, rfl, hq, hns, hV, hA, hNs, hGL⟩ := hrel
   have hR : Hid (Rd wr (.slice a b'.length c) b') := hide (hV.out wr ((HR.out ns).below (hA.out.below (setAt w (ps.take ns.length) ns).heap.size) (Nat.le_refl _)))
   have HNQ := hide hns
   by_cases hlt : q < ps.length
   case neg =>
     obtain rfl : q = ps.length := by omega
     have HF : Hid (GL = some (ns, b')) := hide (by
       rw [hGL.out, Nat.sub_self]
       simp [getsL])
     clear hns
     go_wp2
     go_ret2
     rw [HF.out]
     exact ⟨_, b', ns, rfl, hV.out, (fun h => by cases h), (fun x h => by injection h with h; exact h.symm), hNs.out, by rw [HNQ.out]; exact Nat.le_refl _, hA.out⟩
   have hqi : (q : Int) < (ps.length : Int) := by omega
   have hsub : ps.length - q = (ps.length - (q + 1)) + 1 := by omega
   have hcN : wr.cell? ⟨N, q, none⟩ = some (.pointer (some ⟨(ps.getD q (0, 0)).1, (ps.getD q (0, 0)).2, none⟩)) := by
     rw [hA.out.cell]
     exact (World.cell?_of_block (a := ⟨N, q, none⟩) (HNS.out ns)).trans (HN.out q hlt)
   have hmem : ps.getD q (0, 0) ∈ ps := by
     rw [show ps.getD q (0, 0) = ps[q] by simp [List.getD, hlt]]
     exact List.getElem_mem hlt
   have hnw : NumAt (setAt w (ps.take ns.length) ns) (ps.getD q (0, 0)) := setAt_num w _ ns (HPS.out _ hmem).1
   have hnr : NumAt wr (ps.getD q (0, 0)) := ⟨by
     obtain ⟨x, hx⟩ := hnw.1
     exact ⟨x, by rw [hA.out.cell]; exact hx⟩, by rw [hA.out.froz]; exact hnw.2⟩
   have HSN : Hid (∀ n : Nat, setAt w (ps.take (ns ++ [n]).length) (ns ++ [n]) = (setAt w (ps.take ns.length) ns).setCell ⟨(ps.getD q (0, 0)).1, (ps.getD q (0, 0)).2, none⟩ (.int .i64 (n : Int))) := hide (fun n => by
     have e1 : ps.take (ns ++ [n]).length = ps.take ns.length ++ [ps.getD q (0, 0)] := by
       rw [List.length_append, List.length_singleton, HNQ.out, List.take_add_one, List.getElem?_eq_getElem hlt]
       simp [List.getD, hlt]
     rw [e1, setAt_snoc w _ ns _ n (by rw [List.length_take, HNQ.out]; omega)])
   have HNR := hide hnr
   obtain ⟨⟨x0, hx0⟩, hf0⟩ := hnr
   clear hmem hnw HN HNS HPS hns
   generalize ps.getD q (0, 0) = p at *
   obtain ⟨pb, po⟩ := p
   dsimp only at hcN hx0 hf0 HSN
   have HGQ := hide (HG.out _ b' wr hR.out)
   have hdl := dec62_le b'
   have hdn : (dec62 b').1 < 4611686018427387904 := by
     rcases dec62_cases b' with h | h
     · rw [h]; decide
     · exact h.1
   have HST := hide (getsL_step (n := ps.length - (q + 1)) (b := b'))
   have HSO := hide (getsL_stop (n := ps.length - (q + 1)) (b := b'))
   rw [<- hsub] at HST HSO
   have HCF := hide (fun d hd => cut_from a b' c (by obtain ⟨a', c', h, h2, -⟩ := hR.out; simp only [Value.slice.injEq] at h; omega) d hd)
   generalize (dec62 b').2 = d at *
   generalize (dec62 b').1 = n at *
   clear HG
   by_cases hd : d = 0
   · subst hd
     have HF : Hid (GL = none) := hide (by rw [hGL.out, HSO.out rfl]; rfl)
     go_wp2_with fail
     refine HGQ.out.mono ?_
     rintro e W1 ⟨rfl, hw1⟩
     rw [hw1]
     clear hw1 W1
     go_wp2
     go_ret2
     rw [HF.out]
     exact ⟨_, [], ns, rfl, (fun W _ => Rd.nil W), (fun _ => rfl), (fun x h => by cases h), hNs.out, by rw [HNQ.out]; omega, hA.out⟩
   · have hde : ((d : Int) == 0) = false := beq_eq_false_iff_ne.2 (by omega)
     obtain ⟨xa, xc, hcut, hcr⟩ := HCF.out d hdl
     have HCR := hide hcr
     have HF : Hid (GL = (getsL (ps.length - (q + 1)) (b'.drop d)).map (fun r => ((ns ++ [n]) ++ r.1, r.2))) := hide (by
       rw [hGL.out, HST.out hd]
       cases getsL (ps.length - (q + 1)) (b'.drop d) with
       | none => rfl
       | some r => simp)
     clear hcr HST HSO hGL hd HCF
     generalize b'.drop d = b2 at *
     go_wp2_with fail
     refine HGQ.out.mono ?_
     rintro e W1 ⟨rfl, hw1⟩
     rw [hw1]
     clear hw1 W1
     go_wp2
     go_region
     all_goals
       go_wp2
       go_roundw
       case rel => exact ⟨q + 1, ns ++ [n], b2, xa, xc, by go_num, rfl, by omega, by rw [List.length_append, List.length_singleton, HNQ.out], hide (fun W h => HCR.out W (hV.out W h)), hide (by rw [HSN.out]; exact hA.out.drew.set _ _), hide (fun m hm => by
         rcases List.mem_append.1 hm with h | h
         · exact hNs.out m h
         · rw [List.mem_singleton.1 h]; exact hdn), HF⟩
       case measure => simp [intOf]; omega

end Go.Proofs.YtpopbandpnaicaaGreatDoor
