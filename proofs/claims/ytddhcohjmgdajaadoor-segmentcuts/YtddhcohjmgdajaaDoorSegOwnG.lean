/- Contracts of segment: readBlock, readBlocks. -/
import Derived.Test.YtddhcohjmgdajaaDoorSegOwnF
namespace Go.Proofs.YtddhcohjmgdajaaDoor
open Go.RowKit

/-- Records that were read of data: just those of which the data are, if there are such. -/
def RelB (v : Nat) (d : List UInt8) (l : List Rec) : Prop := ∀ l' i, 1 ≤ l'.length → l'.length ≤ 16 → RecsOk l' i → dataV v l' = d → l = l'.map (upgR v)

/-- What readBlock answers: none, or the records of which the data are. -/
def GotB (v : Nat) (d : List UInt8) (got : List Rec) : Prop :=
  (got = [] ∨ (got.length ≤ 16 ∧ RecsOk got (got.headD zeroR).idx ∧ dataV v got = d ∧ got.map (upgR v) = got)) ∧ RelB v d got

theorem relB_three {d : List UInt8} {l : List Rec} {e : Int} (h : DecB d l e) : RelB 3 d l := fun l' i h1 h2 hok hd => by
  have hf := fitsB_of h1 h2 hok.2.1 hok.2.2
  have e3 : dataV 3 l' = encB l' := if_pos rfl
  rw [e3] at hd
  have h' : DecB d l' 0 := .inl ⟨rfl, hf, hd⟩
  rw [(h.unique h').1]
  exact (upg3_map l').symm

theorem relB_elder {v : Nat} (h1 : 1 ≤ v) (h3 : v ≤ 3) (hv : v ≠ 3) {d : List UInt8} {l : List Rec} (h : ReadRs d l) : RelB v d l := fun l' i _ g2 hok hd => by
  have e : dataV v l' = l'.flatMap (elderE v) := if_neg hv
  rw [e] at hd
  exact h v l' h1 h3 hok.2.1 g2 hd.symm

theorem head_map {v : Int} (l : List Rec) : ((l.map (upgR v)).headD zeroR).idx = (l.headD zeroR).idx := by
  cases l <;> rfl

theorem recsOk_head1 {l : List Rec} {i : Int} (h : RecsOk l i) : RecsOk l (l.headD zeroR).idx := (recsOk_head.1 h).1

theorem gotB_nil {v : Nat} {d : List UInt8} {l : List Rec} (h : RelB v d l) (hb : 16 < l.length ∨ ¬ RecsOk l (l.headD zeroR).idx ∨ dataO v l ≠ d) (h1 : 1 ≤ v := by omega) (h3 : v ≤ 3 := by omega) : GotB v d [] := by
  refine ⟨.inl rfl, fun l' i g1 g2 hok hd => ?_⟩
  exfalso
  have e := h l' i g1 g2 hok hd
  rcases hb with hb | hb | hb
  · rw [e, List.length_map] at hb
    omega
  · apply hb
    rw [e]
    exact recsOk_head1 (recsOk_upg hok)
  · apply hb
    unfold dataO
    rw [if_neg (fun hn => by rw [hn] at e; have := congrArg List.length e; rw [List.length_map, List.length_nil] at this; omega), e, dataV_upg h1 h3]
    exact hd

theorem gotB_ok {v : Nat} (_h1 : 1 ≤ v) (_h3 : v ≤ 3) {d : List UInt8} {l : List Rec} (h : RelB v d l) (h16 : l.length ≤ 16) (hok : RecsOk l (l.headD zeroR).idx) (hd : d = dataO v l) : GotB v d l := by
  refine ⟨?_, h⟩
  by_cases hl : l = []
  · exact .inl hl
  · have hp : 1 ≤ l.length := Nat.pos_of_ne_zero (fun e => hl (List.eq_nil_of_length_eq_zero e))
    have e : dataV v l = d := by
      rw [hd]
      unfold dataO
      rw [if_neg hl]
    exact .inr ⟨h16, hok, e, (h l _ hp h16 hok e).symm⟩

theorem gotB_read {v : Nat} (h1 : 1 ≤ v) (h3 : v ≤ 3) {d : List UInt8} {G : List Rec} (h : GotB v d G) (next : Int) : readBk v d next = if G ≠ [] ∧ (G.headD zeroR).idx = next then some G else none := by
  obtain ⟨ha, hrel⟩ := h
  by_cases hc : G ≠ [] ∧ (G.headD zeroR).idx = next
  · rw [if_pos hc]
    rcases ha with ha | ⟨g1, g2, g3, g4⟩
    · exact absurd ha hc.1
    · have hp : 1 ≤ G.length := Nat.pos_of_ne_zero (fun e => hc.1 (List.eq_nil_of_length_eq_zero e))
      rw [hc.2] at g2
      have := readBk_data h1 h3 hp g1 g2
      rw [g3, g4] at this
      exact this
  · rw [if_neg hc]
    refine readBk_no (fun l g1 g2 hok hd => hc ?_)
    have e := hrel l next g1 g2 hok hd
    rw [e]
    refine ⟨fun hn => by have := congrArg List.length hn; rw [List.length_map, List.length_nil] at this; omega, ?_⟩
    rw [head_map]
    rcases (recsOk_head.1 hok).2 with hx | hx
    · rw [hx] at g1; simp at g1
    · exact hx

/-- What readBlock answers, in memory. -/
def BlockGot (w : World) (v : Nat) (d : List UInt8) (e : Ending) (w' : World) : Prop := ∃ vl G, e = .returned vl ∧ RdR w' vl G ∧ GotB v d G ∧ Below w.heap.size w w'

set_option maxRecDepth 100000 in
set_option maxHeartbeats 4000000 in
theorem readBlockG_any (v : Nat) (hv1 : 1 ≤ v) (hv3 : v ≤ 3) (vd : Value) (d : List UInt8) (w : World) (hr : Rd w vd d) (hlim : d.length ≤ 1000000) (ht : TabF w) :
    Calls Tryd.prog 57 #[.int .i64 (v : Int), vd] w fun e w' => BlockGot w v d e w' := by
  have HR := hide hr
  have HTB := hide (fun W (hb : Below w.heap.size w W) => ht.below hb (Nat.le_refl _))
  have HDB := hide (blockDecodeB_any vd d w hr hlim)
  have HRR := hide (readRecords_any vd d w hr hlim ht)
  obtain ⟨ao, cap, rfl, -⟩ := hr
  unfold DecodedB at HDB
  unfold RecsRead at HRR
  clear ht
  by_cases h3 : v = 3
  · have hvb : ((v : Int) == 3) = true := by rw [beq_iff_eq]; omega
    clear HRR
    go_enter Tryd.func57, Tryd.ntmps57
    go_wp2_with fail
    refine HDB.out.mono ?_
    rintro e W1 ⟨vl, l, n, rfl, hrl, hdb, hb1⟩
    have HREL : Hid (RelB v d l) := hide (by rw [h3]; exact relB_three hdb)
    have HRL := hide hrl
    have HB1 := hide hb1
    obtain ⟨al, cl, rfl, -⟩ := hrl
    clear hb1 hdb HDB h3
    by_cases hb16 : 16 < l.length
    · have HN := hide (gotB_nil HREL.out (.inl hb16))
      have f1 : 16 < (l.length : Int) := by omega
      clear hb16 HREL
      go_wp2
      go_ret
      exact ⟨_, [], rfl, RdR.nil _, HN.out, HB1.out⟩
    have f1 : ¬ 16 < (l.length : Int) := by omega
    have HGO := hide (goOn_any _ l W1 HRL.out)
    by_cases hok : RecsOk l (l.headD zeroR).idx
    case neg =>
      have HN := hide (gotB_nil HREL.out (.inr (.inl hok)))
      rw [decide_eq_false hok] at HGO
      clear hb16 HREL hok
      go_wp2_with fail
      refine HGO.out.mono ?_
      rintro e W2 ⟨rfl, hb2⟩
      have HB2 := hide (HB1.out.trans (hb2.mono HB1.out.size))
      clear hb2
      go_wp2
      go_ret
      exact ⟨_, [], rfl, RdR.nil _, HN.out, HB2.out⟩
    rw [decide_eq_true hok] at HGO
    have HBD := hide (fun W (hb : Below w.heap.size w W) (h : RdR W (.slice al l.length cl) l) => blockData_any v hv1 hv3 _ l _ W h (by omega) hok (HTB.out W hb))
    have HEQ := hide (fun vb W (ha : Rd W (.slice ao d.length cap) d) (hb : Rd W vb (dataO v l)) => bytesEqual_any _ vb d (dataO v l) W ha hb)
    obtain ⟨D, hD⟩ : ∃ D, D = dataO v l := ⟨_, rfl⟩
    have HNO : Hid (¬ d = D → GotB v d []) := hide (fun h => gotB_nil HREL.out (.inr (.inr (fun e => h (by rw [hD, e])))))
    have HYES : Hid (d = D → GotB v d l) := hide (fun h => gotB_ok hv1 hv3 HREL.out (by omega) hok (by rw [h, hD]))
    rw [← hD] at HBD HEQ
    clear hD HREL hok hb16
    go_wp2_with fail
    refine HGO.out.mono ?_
    rintro e W2 ⟨rfl, hb2⟩
    have HR2 := hide (HRL.out.below hb2 (Nat.le_refl _))
    have HB2 := hide (HB1.out.trans (hb2.mono HB1.out.size))
    clear hb2 HGO HRL HB1
    go_wp2_with fail
    refine (HBD.out _ HB2.out HR2.out).mono ?_
    rintro e W3 ⟨v3, rfl, ho3, hb3⟩
    have HD3 := hide ho3.rd
    have HR3 := hide (HR2.out.below hb3 (Nat.le_refl _))
    have HB3 := hide (HB2.out.trans (hb3.mono HB2.out.size))
    clear ho3 hb3 HBD HR2 HB2
    by_cases heq : d = D
    · have HG := hide (HYES.out heq)
      rw [decide_eq_true heq] at HEQ
      have HEQ' := hide (HEQ.out v3 W3 (HR.out.below HB3.out (Nat.le_refl _)) HD3.out)
      clear heq HEQ HYES HNO
      go_wp2_with fail
      refine HEQ'.out.mono ?_
      rintro e W4 ⟨rfl, hw4⟩
      rw [hw4]
      go_wp2
      go_ret
      exact ⟨_, l, rfl, HR3.out, HG.out, HB3.out⟩
    · have HG := hide (HNO.out heq)
      rw [decide_eq_false heq] at HEQ
      have HEQ' := hide (HEQ.out v3 W3 (HR.out.below HB3.out (Nat.le_refl _)) HD3.out)
      clear heq HEQ HYES HNO
      go_wp2_with fail
      refine HEQ'.out.mono ?_
      rintro e W4 ⟨rfl, hw4⟩
      rw [hw4]
      go_wp2
      go_ret
      exact ⟨_, [], rfl, RdR.nil _, HG.out, HB3.out⟩
  · have hvb : ((v : Int) == 3) = false := beq_eq_false_iff_ne.2 (by omega)
    clear HDB
    go_enter Tryd.func57, Tryd.ntmps57
    go_wp2_with fail
    refine HRR.out.mono ?_
    rintro e W1 ⟨vl, l, rfl, hrl, hdb, hb1⟩
    have HREL : Hid (RelB v d l) := hide (relB_elder hv1 hv3 h3 hdb)
    have HRL := hide hrl
    have HB1 := hide hb1
    obtain ⟨al, cl, rfl, -⟩ := hrl
    clear hb1 hdb HRR h3
    by_cases hb16 : 16 < l.length
    · have HN := hide (gotB_nil HREL.out (.inl hb16))
      have f1 : 16 < (l.length : Int) := by omega
      clear hb16 HREL
      go_wp2
      go_ret
      exact ⟨_, [], rfl, RdR.nil _, HN.out, HB1.out⟩
    have f1 : ¬ 16 < (l.length : Int) := by omega
    have HGO := hide (goOn_any _ l W1 HRL.out)
    by_cases hok : RecsOk l (l.headD zeroR).idx
    case neg =>
      have HN := hide (gotB_nil HREL.out (.inr (.inl hok)))
      rw [decide_eq_false hok] at HGO
      clear hb16 HREL hok
      go_wp2_with fail
      refine HGO.out.mono ?_
      rintro e W2 ⟨rfl, hb2⟩
      have HB2 := hide (HB1.out.trans (hb2.mono HB1.out.size))
      clear hb2
      go_wp2
      go_ret
      exact ⟨_, [], rfl, RdR.nil _, HN.out, HB2.out⟩
    rw [decide_eq_true hok] at HGO
    have HBD := hide (fun W (hb : Below w.heap.size w W) (h : RdR W (.slice al l.length cl) l) => blockData_any v hv1 hv3 _ l _ W h (by omega) hok (HTB.out W hb))
    have HEQ := hide (fun vb W (ha : Rd W (.slice ao d.length cap) d) (hb : Rd W vb (dataO v l)) => bytesEqual_any _ vb d (dataO v l) W ha hb)
    obtain ⟨D, hD⟩ : ∃ D, D = dataO v l := ⟨_, rfl⟩
    have HNO : Hid (¬ d = D → GotB v d []) := hide (fun h => gotB_nil HREL.out (.inr (.inr (fun e => h (by rw [hD, e])))))
    have HYES : Hid (d = D → GotB v d l) := hide (fun h => gotB_ok hv1 hv3 HREL.out (by omega) hok (by rw [h, hD]))
    rw [← hD] at HBD HEQ
    clear hD HREL hok hb16
    go_wp2_with fail
    refine HGO.out.mono ?_
    rintro e W2 ⟨rfl, hb2⟩
    have HR2 := hide (HRL.out.below hb2 (Nat.le_refl _))
    have HB2 := hide (HB1.out.trans (hb2.mono HB1.out.size))
    clear hb2 HGO HRL HB1
    go_wp2_with fail
    refine (HBD.out _ HB2.out HR2.out).mono ?_
    rintro e W3 ⟨v3, rfl, ho3, hb3⟩
    have HD3 := hide ho3.rd
    have HR3 := hide (HR2.out.below hb3 (Nat.le_refl _))
    have HB3 := hide (HB2.out.trans (hb3.mono HB2.out.size))
    clear ho3 hb3 HBD HR2 HB2
    by_cases heq : d = D
    · have HG := hide (HYES.out heq)
      rw [decide_eq_true heq] at HEQ
      have HEQ' := hide (HEQ.out v3 W3 (HR.out.below HB3.out (Nat.le_refl _)) HD3.out)
      clear heq HEQ HYES HNO
      go_wp2_with fail
      refine HEQ'.out.mono ?_
      rintro e W4 ⟨rfl, hw4⟩
      rw [hw4]
      go_wp2
      go_ret
      exact ⟨_, l, rfl, HR3.out, HG.out, HB3.out⟩
    · have HG := hide (HNO.out heq)
      rw [decide_eq_false heq] at HEQ
      have HEQ' := hide (HEQ.out v3 W3 (HR.out.below HB3.out (Nat.le_refl _)) HD3.out)
      clear heq HEQ HYES HNO
      go_wp2_with fail
      refine HEQ'.out.mono ?_
      rintro e W4 ⟨rfl, hw4⟩
      rw [hw4]
      go_wp2
      go_ret
      exact ⟨_, [], rfl, RdR.nil _, HG.out, HB3.out⟩

end Go.Proofs.YtddhcohjmgdajaaDoor
