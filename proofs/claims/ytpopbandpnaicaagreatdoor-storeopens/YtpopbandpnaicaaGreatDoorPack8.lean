import Derived.Test.YtpopbandpnaicaaGreatDoorPack7
import Derived.BigRegion
import Derived.Deep.DeepCutAuto
import Derived.Lib.AppendZerosOnto
import Derived.Lib.LazyBuf
import Derived.Deep.WholeRow
import Derived.Test.YtpopbandpnaicaaGreatDoorPack5
import Derived.Test.YtpopbandpnaicaaGreatDoorPack4
import Derived.Test.YtpopbandpnaicaaGreatDoorPack6
import Derived.BigQuiet
import Derived.Deep.RegionHeld
namespace Go.Proofs.YtpopbandpnaicaaGreatDoor
set_option maxRecDepth 100000
open Go.RowKit

theorem info_pc : (Tryz.prog.info? 120).map (fun i => (i.zero, i.size, i.bytes)) = some (some (.agg #[.int .i64 0, .int .i64 0, .int .i64 0]), 3, 24) := by kernel_rfl

theorem run_append_pc (w : World) (ty : TypeId) (v : Value) (l : List Pce) (h : w.ownsRow 0 120 3 v l.length (pcCells l)) (c : Pce) (hlim : l.length <= 10000000) :
   ∃ v' w', (Builtin.append_ #[74, 74] ty #[v, .slice (some ⟨w.heap.size, 0, none⟩) 1 1]).run Tryz.prog (w.alloc (.cells (pcC c) 120)) = .ok v' w' ∧
     w'.ownsRow 0 120 3 v' (l ++ [c]).length (pcCells (l ++ [c])) ∧ (w.alloc (.cells (pcC c) 120)).grownBy w' v.ownBlock ∧ (v'.ownBlock = v.ownBlock ∨ v'.ownBlock = some (w.heap.size + 1)) := by
 obtain ⟨i0, hi, hz0, hz1, hz2⟩ := info_parts info_pc
 obtain ⟨v', w', hrun, ho, hg, _, hl⟩ := run_append_own_at (P := Tryz.prog) (w.alloc (.cells (pcC c) 120)) 0 74 ty 120 i0 _ 3 24 Tryz.underlying74 hi hz0 hz1 hz2 rfl (by decide) v l.length (pcCells l) (World.ownsRow.alloc h _)
   ⟨w.heap.size, 0, none⟩ 1 1 (pcCells [c]) (pcCells_length [c]) (fun j u hj => by
     rw [Addr.add_lit, Nat.zero_add, cell_of_row _ w.heap.size j _ 120 (0, 0) (heap_alloc_new w _)]
     simpa [pcCells] using hj) (pcCells_one [c]) (by unfold maxLen; omega) (by omega) (Nat.zero_le _)
 refine ⟨v', w', hrun, ?_, hg, ?_⟩
 · rw [List.length_append, pcCells_app]
   exact ho
 · rcases hl with hl | hl
   · exact .inl hl
   · exact .inr (by rw [hl]; simp)

theorem wpList_append_pc (w : World) {ops : Array Oper} {rest : List Oper} {o : Oper} {a : Act} {Q : Exit -> Act -> World -> Prop} (hgd : o.guard = none) (s x : Operand)
   (ho : o.op = .call { callee := .builtin .append, args := #[s, x], argTypes := #[74, 74] })
   (v : Value) (l : List Pce) (hs : a.eval s = v) (h : w.ownsRow 0 120 3 v l.length (pcCells l)) (c : Pce) (hx : a.eval x = .slice (some ⟨w.heap.size, 0, none⟩) 1 1) (hlim : l.length <= 10000000)
   (hK : ∀ v' w', w'.ownsRow 0 120 3 v' (l ++ [c]).length (pcCells (l ++ [c])) -> (w.alloc (.cells (pcC c) 120)).grownBy w' v.ownBlock -> (v'.ownBlock = v.ownBlock ∨ v'.ownBlock = some (w.heap.size + 1)) ->
     wpList Tryz.prog ops Q rest (a.put o.dst v') w') : wpList Tryz.prog ops Q (o :: rest) a (w.alloc (.cells (pcC c) 120)) :=
 wpList_plain hgd fun _ hK' => by
   obtain ⟨v', w', hrun, h2, h3, h4⟩ := run_append_pc w o.type v l h c hlim
   unfold Oper.wp execOp
   simp only [ho, resolve, invoke, builtin, Sem.run_bind, Sem.run_pure, Result.andThen_ok, List.map_toArray, List.map_cons, List.map_nil, hs, hx, hrun]
   exact hK' _ _ (hK v' w' h2 h3 h4)

theorem run_append_recw (w : World) (ty : TypeId) (v : Value) (l0 : List Rec) (hown : OwnR w 0 v l0) (vx : Value) (l : List Rec) (hr : RdR w vx l) (hlim : l0.length + l.length <= 10000000) :
   ∃ v' w', (Builtin.append_ #[29, 29] ty #[v, vx]).run Tryz.prog w = .ok v' w' ∧ OwnR w' 0 v' (l0 ++ l) ∧ w.grownBy w' v.ownBlock ∧ (v'.ownBlock = v.ownBlock ∨ v'.ownBlock = some w.heap.size) := by
 obtain ⟨i0, hi, hz0, hz1, hz2⟩ := info_parts info_rec
 obtain ⟨ao, cap, rfl, hlc, hcm, hn0, _, hao⟩ := hr
 cases ao with
 | none =>
   have hc := hn0 rfl
   subst hc
   have hl : l = [] := List.eq_nil_of_length_eq_zero (by omega)
   subst hl
   have hrun := run_append_owned_none (P := Tryz.prog) w 0 29 ty 66 i0 7 Tryz.underlying29 hi v l0.length (recCells l0) hown
   exact ⟨v, w, hrun, by rw [List.append_nil]; exact hown, ⟨rfl, rfl, rfl, Nat.le_refl _, fun _ _ _ => rfl⟩, .inl rfl⟩
 | some a =>
   obtain ⟨v', w', hrun, ho, hg, _, hl⟩ := run_append_own_at (P := Tryz.prog) w 0 29 ty 66 i0 _ 7 56 Tryz.underlying29 hi hz0 hz1 hz2 rfl (by decide) v l0.length (recCells l0) hown a l.length cap (recCells l)
     (recCells_length l) (RdR.cells hao a rfl) (recCells_one l) (by unfold maxLen; omega) (by omega) (Nat.zero_le _)
   refine ⟨v', w', hrun, ?_, hg, hl⟩
   unfold OwnR
   rw [List.length_append, recCells_app]
   exact ho

theorem wpList_append_recw (w : World) {ops : Array Oper} {rest : List Oper} {o : Oper} {a : Act} {Q : Exit -> Act -> World -> Prop} (hgd : o.guard = none) (s x : Operand)
   (ho : o.op = .call { callee := .builtin .append, args := #[s, x], argTypes := #[29, 29] })
   (v : Value) (l0 : List Rec) (hs : a.eval s = v) (hown : OwnR w 0 v l0) (vx : Value) (l : List Rec) (hx : a.eval x = vx) (hr : RdR w vx l) (hlim : l0.length + l.length <= 10000000)
   (h : ∀ v' w', OwnR w' 0 v' (l0 ++ l) -> w.grownBy w' v.ownBlock -> (v'.ownBlock = v.ownBlock ∨ v'.ownBlock = some w.heap.size) -> wpList Tryz.prog ops Q rest (a.put o.dst v') w') : wpList Tryz.prog ops Q (o :: rest) a w :=
 wpList_plain hgd fun _ hK => by
   obtain ⟨v', w', hrun, h2, h3, h4⟩ := run_append_recw w o.type v l0 hown vx l hr hlim
   unfold Oper.wp execOp
   simp only [ho, resolve, invoke, builtin, Sem.run_bind, Sem.run_pure, Result.andThen_ok, List.map_toArray, List.map_cons, List.map_nil, hs, hx, hrun]
   exact hK _ _ (h v' w' h2 h3 h4)

theorem ownBkP {w : World} {base n s : Nat} {t : TypeId} {v : Value} {xs : List Value} (h : w.ownsRow base t s v n xs) {g : Nat} (hg : v.ownBlock = some g) : ∃ cs, Bk t w g cs := by
 rcases h.2 with ⟨hv, _⟩ | ⟨g', cap, cur, hv, _, hb, _⟩
 · rw [hv] at hg; cases hg
 · rw [hv] at hg
   obtain rfl : g' = g := by simpa [Value.ownBlock] using hg
   exact ⟨_, hb⟩

theorem rowForm {w : World} {base n s : Nat} {t : TypeId} {v : Value} {xs : List Value} (h : w.ownsRow base t s v n xs) : ∃ a c, v = .slice a n c := by
 rcases h.2 with ⟨hv, hn⟩ | ⟨g', cap, cur, hv, _⟩
 · exact ⟨_, _, by rw [hv, hn]⟩
 · exact ⟨_, _, hv⟩

structure LogM (t : TypeId) (w : World) (b o : Nat) (cs : Array Value) (rv pv : Value) (g : Lgb) : Prop where
 blk : Bk t w b cs
 c0 : cs[o]? = some (.int .i64 g.first)
 c1 : cs[o + 1]? = some rv
 c2 : cs[o + 2]? = some pv
 recs : OwnR w 0 rv g.recs
 pcs : w.ownsRow 0 120 3 pv g.pcs.length (pcCells g.pcs)

def LogF (b : Nat) (rv pv : Value) (k : Nat) : Prop := k = b ∨ rv.ownBlock = some k ∨ pv.ownBlock = some k

theorem LogM.neR {t : TypeId} {w : World} {b o : Nat} {cs : Array Value} {rv pv : Value} {g : Lgb} (h : LogM t w b o cs rv pv g) (ht : t ≠ 66) : rv.ownBlock ≠ some b := fun e => by
 obtain ⟨cs', hb⟩ := ownBkP h.recs e
 exact (h.blk.ne hb ht) rfl

theorem LogM.neP {t : TypeId} {w : World} {b o : Nat} {cs : Array Value} {rv pv : Value} {g : Lgb} (h : LogM t w b o cs rv pv g) (ht : t ≠ 120) : pv.ownBlock ≠ some b := fun e => by
 obtain ⟨cs', hb⟩ := ownBkP h.pcs e
 exact (h.blk.ne hb ht) rfl

theorem LogM.neRP {t : TypeId} {w : World} {b o : Nat} {cs : Array Value} {rv pv : Value} {g : Lgb} (h : LogM t w b o cs rv pv g) : ∀ k, rv.ownBlock = some k -> pv.ownBlock ≠ some k := fun k e1 e2 => by
 obtain ⟨cs1, hb1⟩ := ownBkP h.recs e1
 obtain ⟨cs2, hb2⟩ := ownBkP h.pcs e2
 exact (hb1.ne hb2 (by decide)) rfl

theorem LogM.below {t : TypeId} {w w' : World} {b o : Nat} {cs : Array Value} {rv pv : Value} {g : Lgb} (h : LogM t w b o cs rv pv g) (hb : Below w.heap.size w w') : LogM t w' b o cs rv pv g :=
 ⟨h.blk.keep (hb.block b h.blk.lt), h.c0, h.c1, h.c2, h.recs.below hb (Nat.le_refl _), ownsRow_keep h.pcs fun g hg => hb.block g (by
   obtain ⟨cs', hb'⟩ := ownBkP h.pcs hg
   exact hb'.lt)⟩

def LogDid (t : TypeId) (w : World) (b o : Nat) (cs : Array Value) (rv pv : Value) (g : Lgb) (w' : World) : Prop :=
 ∃ rv' pv', LogM t w' b o (((cs.setIfInBounds o (.int .i64 g.first)).setIfInBounds (o + 1) rv').setIfInBounds (o + 2) pv') rv' pv' g ∧ Only (LogF b rv pv) w w' ∧
   (∀ k, LogF b rv' pv' k -> LogF b rv pv k ∨ w.heap.size <= k)

theorem LogDid.more {t : TypeId} {w w1 w2 : World} {b o : Nat} {cs : Array Value} {rv pv : Value} {g : Lgb} (h : LogDid t w b o cs rv pv g w1) (hb : Below w1.heap.size w1 w2) : LogDid t w b o cs rv pv g w2 := by
 obtain ⟨rv', pv', h1, h2, h3⟩ := h
 exact ⟨rv', pv', h1.below hb, h2.trans (G := fun _ => False) (Only.ofBelow hb) (fun _ _ hf => hf.elim), h3⟩

theorem set_same {cs : Array Value} {j : Nat} {x : Value} (h : cs[j]? = some x) : cs.setIfInBounds j x = cs := by
 apply Array.ext_getElem?
 intro i
 rw [Array.getElem?_setIfInBounds]
 by_cases e : j = i
 · subst e
   have hlt : j < cs.size := (Array.getElem?_eq_some_iff.1 h).1
   rw [if_pos rfl, if_pos hlt, h]
 · simp [e]

set_option maxHeartbeats 2000000 in
theorem beginL_any (t : TypeId) (ht1 : t ≠ 66) (ht2 : t ≠ 120) (b o : Nat) (cs : Array Value) (rv pv : Value) (g : Lgb) (name first : Int) (w : World) (h : LogM t w b o cs rv pv g) (hlim : g.pcs.length <= 1000000) :
   Calls Tryz.prog 56 #[.pointer (some ⟨b, o, none⟩), .int .i64 name, .int .i64 first] w fun e w' => e = .returned (.tuple #[]) ∧ LogDid t w b o cs rv pv (g.start name first) w' := by
 obtain ⟨pa, pc, hpv⟩ := rowForm h.pcs
 -- the world ahead of the append
 obtain ⟨W1, hW1⟩ : ∃ W1, W1 = if g.pcs.length = 0 then w.setCell ⟨b, o, none⟩ (.int .i64 first) else w := ⟨_, rfl⟩
 obtain ⟨cs1, hcs1⟩ : ∃ cs1, cs1 = if g.pcs.length = 0 then cs.setIfInBounds o (.int .i64 first) else cs := ⟨_, rfl⟩
 have hsz : W1.heap.size = w.heap.size := by
   rw [hW1]
   split
   · simp
   · rfl
 have hK1 : ∀ k, k ≠ b -> W1.heap[k]? = w.heap[k]? := fun k hk => by
   rw [hW1]
   split
   · exact Below.heap_setCell _ _ _ _ hk
   · rfl
 have hO1 : Only (LogF b rv pv) w W1 := by
   rw [hW1]
   split
   · exact (Only.refl _ _).setCell o (fun _ => .inl rfl) _
   · exact Only.refl _ _
 have hB1 : Bk t W1 b cs1 := by
   rw [hW1, hcs1]
   split
   · exact h.blk.set o _
   · exact h.blk
 have hst : g.start name first = ⟨if g.pcs.length = 0 then first else g.first, g.recs, g.pcs ++ [(⟨name, first, first⟩ : Pce)]⟩ := rfl
 have hM1 : LogM t W1 b o cs1 rv pv ⟨if g.pcs.length = 0 then first else g.first, g.recs, g.pcs⟩ := by
   refine ⟨hB1, ?_, ?_, ?_, ownsRow_keep h.recs fun k hk => hK1 k (fun e => h.neR ht1 (by subst e; exact hk)), ownsRow_keep h.pcs fun k hk => hK1 k (fun e => h.neP ht2 (by subst e; exact hk))⟩
   · rw [hcs1]
     have hlt : o < cs.size := (Array.getElem?_eq_some_iff.1 h.c0).1
     split
     · simp [hlt]
     · exact h.c0
   · rw [hcs1]
     split
     · rw [Array.getElem?_setIfInBounds, if_neg (by omega)]
       exact h.c1
     · exact h.c1
   · rw [hcs1]
     split
     · rw [Array.getElem?_setIfInBounds, if_neg (by omega)]
       exact h.c2
     · exact h.c2
 have HC2 : Hid (∀ v2 w2, w2.ownsRow 0 120 3 v2 (g.pcs ++ [(⟨name, first, first⟩ : Pce)]).length (pcCells (g.pcs ++ [(⟨name, first, first⟩ : Pce)])) -> (W1.alloc (.cells (pcC ⟨name, first, first⟩) 120)).grownBy w2 pv.ownBlock -> (v2.ownBlock = pv.ownBlock ∨ v2.ownBlock = some (W1.heap.size + 1)) ->
     LogDid t w b o cs rv pv (g.start name first) (w2.setCell ⟨b, o + 2, none⟩ v2) ∧ w2.cell? ⟨b, o + 2, none⟩ = some pv ∧ w2.frozen? ⟨b, o + 2, none⟩ = false) := hide (fun v2 w2 hr hg hv => by
   have hk2 : ∀ k, k < W1.heap.size -> pv.ownBlock ≠ some k -> w2.heap[k]? = W1.heap[k]? := fun k hk hne => by
     rw [hg.block k (by simp; omega) (fun e => hne e.symm), Below.heap_alloc _ _ _ hk]
   have hb2 : Bk t w2 b cs1 := hM1.blk.keep (hk2 b hM1.blk.lt (hM1.neP ht2))
   have hs2 : W1.heap.size + 1 <= w2.heap.size := by have := hg.size; simpa using this
   have hec : ((cs.setIfInBounds o (.int .i64 (g.start name first).first)).setIfInBounds (o + 1) rv).setIfInBounds (o + 2) v2 = cs1.setIfInBounds (o + 2) v2 := by
     congr 1
     rw [hst, hcs1]
     dsimp only
     by_cases h0 : g.pcs.length = 0
     · rw [if_pos h0, if_pos h0]
       exact set_same (by rw [Array.getElem?_setIfInBounds, if_neg (by omega)]; exact h.c1)
     · rw [if_neg h0, if_neg h0, set_same h.c0, set_same h.c1]
   have hp2 : v2.ownBlock ≠ some b := fun e => by
     obtain ⟨cs', hb'⟩ := ownBkP hr e
     exact (hb2.ne hb' ht2) rfl
   refine ⟨⟨rv, v2, ?_, ?_, ?_⟩, (hb2.cell _ hM1.c2).1, (hb2.cell _ hM1.c2).2⟩
   · rw [hec]
     have hlt : o + 2 < cs1.size := (Array.getElem?_eq_some_iff.1 hM1.c2).1
     refine ⟨hb2.set _ _, ?_, ?_, by simp [hlt], ownsRow_keep hM1.recs fun k hk => ?_, ownsRow_keep hr fun k hk => Below.heap_setCell _ _ _ _ (fun e => hp2 (by subst e; exact hk))⟩
     · rw [Array.getElem?_setIfInBounds, if_neg (by omega)]
       exact hM1.c0
     · rw [Array.getElem?_setIfInBounds, if_neg (by omega)]
       exact hM1.c1
     · obtain ⟨cs', hb'⟩ := ownBkP hM1.recs hk
       rw [Below.heap_setCell _ _ _ _ (fun e => hM1.neR ht1 (by subst e; exact hk)), hk2 k hb'.lt (hM1.neRP k hk)]
   · refine (hO1.trans (G := LogF b rv pv) ?_ (fun _ _ hf => hf)).setCell _ (fun _ => .inl rfl) _
     exact ((Only.refl _ W1).alloc _).trans (Only.ofGrown (F := LogF b rv pv) hg fun k e _ => .inr (.inr e)) (fun _ _ hf => hf)
   · intro k hk
     rcases hk with hk | hk | hk
     · exact .inl (.inl hk)
     · exact .inl (.inr (.inl hk))
     · rcases hv with hv | hv
       · exact .inl (.inr (.inr (by rw [<- hv]; exact hk)))
       · rw [hv] at hk
         have := Option.some.inj hk
         exact .inr (by omega))
 have HPR : Hid (W1.ownsRow 0 120 3 (.slice pa g.pcs.length pc) g.pcs.length (pcCells g.pcs)) := hide (by rw [<- hpv]; exact hM1.pcs)
 have HLM : Hid (g.pcs.length <= 10000000) := hide (by omega)
 have HPV := hide hpv
 have d2 := (h.blk.cell _ h.c2).1
 have d0 := (h.blk.cell _ h.c0)
 obtain ⟨d0, f0⟩ := d0
 have e2 := (hM1.blk.cell _ hM1.c2).1
 rw [hpv] at d2 e2
 have HW1 := hide hW1
 have hmx : (g.pcs.length : Int) <= 1000000 := by omega
 clear hpv hM1 hB1 hK1 hO1 hsz hst hcs1 h hW1
 by_cases h0 : g.pcs.length = 0
 · have hb0 : ((g.pcs.length : Int) == 0) = true := by rw [beq_iff_eq]; omega
   have HE : Hid (W1 = w.setCell ⟨b, o, none⟩ (.int .i64 first)) := hide (by rw [HW1.out, if_pos h0])
   clear h0
   go_enter Tryz.func56, Tryz.ntmps56
   go_upto_region 2 with fail
   rw [<- HE.out]
   clear HE d0 f0 d2
   go_wp2_with (at_builtin; refine (fun (h : True -> _) => h trivial) ?_)
   intro _
   refine wpList_append_pc W1 rfl _ _ rfl (.slice pa g.pcs.length pc) g.pcs rfl HPR.out (⟨name, first, first⟩ : Pce) rfl HLM.out ?_
   intro v2 w2 hr hg hv
   obtain ⟨hL, t2, s2⟩ := HC2.out v2 w2 hr (by rw [HPV.out]; exact hg) (by rw [HPV.out]; exact hv)
   rw [HPV.out] at t2
   have HL := hide hL
   obtain ⟨a9, c9, hv9⟩ := rowForm hr
   obtain ⟨n9, hn9⟩ : ∃ n9, n9 = (g.pcs ++ [(⟨name, first, first⟩ : Pce)]).length := ⟨_, rfl⟩
   rw [<- hn9] at hv9
   subst hv9
   clear hL hr hg hv hn9 e2
   go_wp2
   go_end0
   exact ⟨rfl, HL.out⟩
 · have hb0 : ((g.pcs.length : Int) == 0) = false := beq_eq_false_iff_ne.2 (by omega)
   have HE : Hid (W1 = w) := hide (by rw [HW1.out, if_neg h0])
   clear h0 d0 f0 e2
   rw [HE.out] at HC2 HPR
   go_enter Tryz.func56, Tryz.ntmps56
   go_wp2_with (at_builtin; refine (fun (h : True -> _) => h trivial) ?_)
   intro _
   refine wpList_append_pc w rfl _ _ rfl (.slice pa g.pcs.length pc) g.pcs rfl HPR.out (⟨name, first, first⟩ : Pce) rfl HLM.out ?_
   intro v2 w2 hr hg hv
   obtain ⟨hL, t2, s2⟩ := HC2.out v2 w2 hr (by rw [HPV.out]; exact hg) (by rw [HPV.out]; exact hv)
   rw [HPV.out] at t2
   have HL := hide hL
   obtain ⟨a9, c9, hv9⟩ := rowForm hr
   obtain ⟨n9, hn9⟩ : ∃ n9, n9 = (g.pcs ++ [(⟨name, first, first⟩ : Pce)]).length := ⟨_, rfl⟩
   rw [<- hn9] at hv9
   subst hv9
   clear hL hr hg hv hn9 d2
   go_wp2
   go_end0
   exact ⟨rfl, HL.out⟩

theorem pcCells_set : ∀ (l : List Pce) (j : Nat) (p : Pce), j < l.length -> pcCells (l.set j p) = ((((pcCells l).set (j * 3) (.int .i64 p.name)).set (j * 3 + 1) (.int .i64 p.first)).set (j * 3 + 2) (.int .i64 p.stop))
 | c :: l, 0, p, _ => by
   rw [List.set_cons_zero, pcCells, pcCells]
   rfl
 | c :: l, j + 1, p, hj => by
   have ih := pcCells_set l j p (by simpa using hj)
   rw [List.set_cons_succ, pcCells, ih, pcCells]
   have e : (j + 1) * 3 = (j * 3) + 1 + 1 + 1 := by omega
   rw [e]
   rfl

theorem rowP_stop {w : World} {v : Value} {l : List Pce} (h : w.ownsRow 0 120 3 v l.length (pcCells l)) (j : Nat) (hj : j < l.length) (x : Int) :
   ∃ g cap, v = .slice (some ⟨g, 0, none⟩) l.length cap ∧ g < w.heap.size ∧ l.length <= cap ∧ w.cell? ⟨g, j * 3 + 2, none⟩ = some (.int .i64 (l.getD j zeroP).stop) ∧ w.frozen? ⟨g, j * 3 + 2, none⟩ = false ∧
     (w.setCell ⟨g, j * 3 + 2, none⟩ (.int .i64 x)).ownsRow 0 120 3 v l.length (pcCells (l.set j ⟨(l.getD j zeroP).name, (l.getD j zeroP).first, x⟩)) := by
 rcases h.2 with ⟨_, hn⟩ | ⟨g, cap, cur, hv, hb, hg, hnc, hcm, hcs, htake⟩
 · omega
 · have hget : ∀ k, k < 3 -> cur[j * 3 + k]? = (pcC (l.getD j zeroP))[k]? := fun k hk => by
     have h1 := pcCells_get l j k hj hk
     rw [<- htake, List.getElem?_take, if_pos (by omega), Array.getElem?_toList] at h1
     exact h1
   refine ⟨g, cap, hv, (Array.getElem?_eq_some_iff.1 hg).1, hnc, ?_, frozen_of_row w g _ _ _ hg, ?_, .inr ⟨g, cap, cur.setIfInBounds (j * 3 + 2) (.int .i64 x), hv, hb, heap_setCell_same w g _ _ _ _ hg, hnc, hcm, by simpa using hcs, ?_⟩⟩
   · rw [cell_of_row w g _ _ _ _ hg]
     exact hget 2 (by decide)
   · rw [pcCells_length, List.length_set]
   · rw [pcCells_set l j _ hj]
     have h0 := hget 0 (by decide)
     have h1 := hget 1 (by decide)
     rw [<- htake]
     apply List.ext_getElem?
     intro i
     rw [List.getElem?_take]
     by_cases hi : i < l.length * 3
     · rw [if_pos hi, Array.getElem?_toList, Array.getElem?_setIfInBounds]
       simp only [List.getElem?_set, List.length_set, List.length_take, Array.length_toList, List.getElem?_take, hi, if_true, Array.getElem?_toList]
       have hcz : cur.size = cap * 3 := hcs
       by_cases e2 : j * 3 + 2 = i
       · subst e2
         rw [if_pos rfl, if_pos rfl, if_pos (by omega), if_pos (by omega)]
       · rw [if_neg e2, if_neg e2]
         by_cases e1 : j * 3 + 1 = i
         · subst e1
           rw [if_pos rfl, if_pos (by omega), h1]
           rfl
         · rw [if_neg e1]
           by_cases e0 : j * 3 = i
           · subst e0
             rw [if_pos rfl, if_pos (by omega)]
             rw [Nat.add_zero] at h0
             rw [h0]
             rfl
           · rw [if_neg e0]
     · rw [if_neg hi, List.getElem?_eq_none (by simp; omega)]

set_option maxHeartbeats 4000000 in
theorem add_any (t : TypeId) (ht1 : t ≠ 66) (ht2 : t ≠ 120) (b o : Nat) (cs : Array Value) (rv pv : Value) (g : Lgb) (vl : Value) (l : List Rec) (w : World) (h : LogM t w b o cs rv pv g) (hr : RdR w vl l) (hp0 : g.pcs.length ≠ 0) (hlim : g.pcs.length <= 1000000) (hrl : g.recs.length + l.length <= 10000000)
   (hst : ∀ p ∈ g.pcs, 0 <= p.stop ∧ p.stop <= 4611686018427387904) :
   Calls Tryz.prog 57 #[.pointer (some ⟨b, o, none⟩), vl] w fun e w' => e = .returned (.tuple #[]) ∧ LogDid t w b o cs rv pv (g.add l) w' := by
 obtain ⟨la, lc, rfl, -⟩ := id hr
 obtain ⟨ra, rc, hrv⟩ := h.recs.shape
 obtain ⟨m, hm⟩ : ∃ m, g.pcs.length = m + 1 := ⟨g.pcs.length - 1, by omega⟩
 obtain ⟨st, hst0⟩ : ∃ st, st = (g.pcs.getD m zeroP).stop := ⟨_, rfl⟩
 have hstb : 0 <= st ∧ st <= 4611686018427387904 := by
   rw [hst0]
   refine hst _ ?_
   rw [show g.pcs.getD m zeroP = g.pcs[m]'(by omega) by simp [List.getD, show m < g.pcs.length by omega]]
   exact List.getElem_mem _
 obtain ⟨gp, pc, hpv, hgl, hnc, -, -, -⟩ := rowP_stop h.pcs m (by omega) 0
 -- behind the append, and the store of the records
 have HC2 : Hid (∀ v2 w2, OwnR w2 0 v2 (g.recs ++ l) -> w.grownBy w2 rv.ownBlock -> (v2.ownBlock = rv.ownBlock ∨ v2.ownBlock = some w.heap.size) ->
     (w2.cell? ⟨b, o + 1, none⟩ = some rv ∧ w2.frozen? ⟨b, o + 1, none⟩ = false) ∧
     ((w2.setCell ⟨b, o + 1, none⟩ v2).cell? ⟨b, o + 2, none⟩ = some pv ∧ (w2.setCell ⟨b, o + 1, none⟩ v2).cell? ⟨gp, m * 3 + 2, none⟩ = some (.int .i64 st) ∧ (w2.setCell ⟨b, o + 1, none⟩ v2).frozen? ⟨gp, m * 3 + 2, none⟩ = false) ∧
     LogDid t w b o cs rv pv (g.add l) (((w2.setCell ⟨b, o + 1, none⟩ v2)).setCell ⟨gp, m * 3 + 2, none⟩ (.int .i64 (st + l.length)))) := hide (fun v2 w2 ho hg hv => by
   have hk2 : ∀ k, k < w.heap.size -> rv.ownBlock ≠ some k -> w2.heap[k]? = w.heap[k]? := fun k hk hne => hg.block k hk (fun e => hne e.symm)
   have hb2 : Bk t w2 b cs := h.blk.keep (hk2 b h.blk.lt (h.neR ht1))
   have hpo : pv.ownBlock = some gp := by rw [hpv]; rfl
   have hgb : gp ≠ b := fun e => h.neP ht2 (by rw [hpo, e])
   have hrp : rv.ownBlock ≠ some gp := fun e => h.neRP gp e hpo
   have hp3 : (w2.setCell ⟨b, o + 1, none⟩ v2).ownsRow 0 120 3 pv g.pcs.length (pcCells g.pcs) := ownsRow_keep h.pcs fun k hk => by
     have e : k = gp := by rw [hpo] at hk; exact (Option.some.inj hk).symm
     subst e
     rw [Below.heap_setCell _ _ _ _ hgb, hk2 _ hgl hrp]
   obtain ⟨g', cap', hv', -, -, hc', hf', hrow'⟩ := rowP_stop hp3 m (by omega) (st + l.length)
   have eg : g' = gp := by
     rw [hpv] at hv'
     injection hv' with e1 _ _
     injection e1 with e1
     injection e1 with e1
     exact e1.symm
   subst eg
   rw [<- hst0] at hc'
   have hv2b : v2.ownBlock ≠ some b := fun e => by
     obtain ⟨cs', hb'⟩ := ownBkP ho e
     exact (hb2.ne hb' ht1) rfl
   have hv2p : v2.ownBlock ≠ some g' := fun e => by
     obtain ⟨cs', hb'⟩ := ownBkP ho e
     obtain ⟨cs2, hb2'⟩ := ownBkP hp3 hpo
     have hb3 : Bk 120 w2 g' cs2 := by
       have := hb2'
       unfold Bk at this ⊢
       rw [Below.heap_setCell _ _ _ _ hgb] at this
       exact this
     exact (hb'.ne hb3 (by decide)) rfl
   refine ⟨⟨(hb2.cell _ h.c1).1, (hb2.cell _ h.c1).2⟩, ⟨?_, hc', hf'⟩, v2, pv, ?_, ?_, ?_⟩
   · refine ((hb2.set (o + 1) v2).cell _ ?_).1
     rw [Array.getElem?_setIfInBounds, if_neg (by omega)]
     exact h.c2
   · have hec : ((cs.setIfInBounds o (.int .i64 (g.add l).first)).setIfInBounds (o + 1) v2).setIfInBounds (o + 2) pv = cs.setIfInBounds (o + 1) v2 := by
       have e1 : (g.add l).first = g.first := rfl
       rw [e1, set_same h.c0]
       exact set_same (by rw [Array.getElem?_setIfInBounds, if_neg (by omega)]; exact h.c2)
     rw [hec]
     have hlt : o + 1 < cs.size := (Array.getElem?_eq_some_iff.1 h.c1).1
     refine ⟨(hb2.set _ _).other _ _ _ (fun e => hgb e.symm), ?_, by simp [hlt], ?_, ownsRow_keep ho fun k hk => ?_, ?_⟩
     · rw [Array.getElem?_setIfInBounds, if_neg (by omega)]
       exact h.c0
     · rw [Array.getElem?_setIfInBounds, if_neg (by omega)]
       exact h.c2
     · rw [Below.heap_setCell _ _ _ _ (fun e => hv2p (by subst e; exact hk)), Below.heap_setCell _ _ _ _ (fun e => hv2b (by subst e; exact hk))]
     · have e3 : (g.add l).pcs = g.pcs.set m ⟨(g.pcs.getD m zeroP).name, (g.pcs.getD m zeroP).first, st + l.length⟩ := by
         show moreLast g.pcs l.length = _
         unfold moreLast
         rw [hm, Nat.add_sub_cancel, <- hst0]
       rw [e3, List.length_set]
       exact hrow'
   · exact ((Only.ofGrown (F := LogF b rv pv) hg fun k e _ => .inr (.inl e)).setCell _ (fun _ => .inl rfl) _).setCell _ (fun _ => .inr (.inr hpo)) _
   · intro k hk
     rcases hk with hk | hk | hk
     · exact .inl (.inl hk)
     · rcases hv with hv | hv
       · exact .inl (.inr (.inl (by rw [<- hv]; exact hk)))
       · rw [hv] at hk
         have := Option.some.inj hk
         exact .inr (by omega)
     · exact .inl (.inr (.inr hk)))
 have HRO : Hid (OwnR w 0 (.slice ra g.recs.length rc) g.recs) := hide (by rw [<- hrv]; exact h.recs)
 have HRD := hide hr
 have HRV := hide hrv
 have HPV := hide hpv
 have HLM := hide hrl
 obtain ⟨d1, -⟩ := h.blk.cell _ h.c1
 rw [hrv] at d1
 have hw : IntKind.i64.wrap (st + (l.length : Int)) = st + l.length := by rw [IntKind.wrap_i64]; omega
 have hmi : (m : Int) <= 1000000 := by omega
 have hpl : g.pcs.length = m + 1 := hm
 have HPL : Hid (pv = .slice (some ⟨gp, 0, none⟩) (m + 1) pc) := hide (by rw [hpv, hm])
 have hli : (l.length : Int) <= 10000000 := by omega
 obtain ⟨hs0, hs1⟩ := hstb
 have hnc2 : m + 1 <= pc := by omega
 clear hrv hpv h hr hst hst0 hp0 hlim hrl hm hpl hnc hgl
 go_enter Tryz.func57, Tryz.ntmps57
 go_wp2_with (at_builtin; refine (fun (h : True -> _) => h trivial) ?_)
 intro _
 refine wpList_append_recw w rfl _ _ rfl (.slice ra g.recs.length rc) g.recs rfl HRO.out _ l rfl HRD.out HLM.out ?_
 intro v2 w2 ho hg hv
 obtain ⟨⟨t1, s1⟩, ⟨u2, u3, u4⟩, hL⟩ := HC2.out v2 w2 ho (by rw [HRV.out]; exact hg) (by rw [HRV.out]; exact hv)
 rw [HRV.out] at t1
 rw [HPL.out] at u2
 have HL := hide hL
 obtain ⟨a9, n9, c9, hv9⟩ : ∃ a n c, v2 = .slice a n c := by
   obtain ⟨a, c, hh⟩ := ho.shape
   exact ⟨a, _, c, hh⟩
 subst hv9
 obtain ⟨W2, hW2⟩ : ∃ W2, W2 = w2.setCell ⟨b, o + 1, none⟩ (.slice a9 n9 c9) := ⟨_, rfl⟩
 rw [<- hW2] at u2 u3 u4 HL
 clear hL ho hg hv d1
 go_upto_region 1 with fail
 rw [<- hW2]
 clear hW2 t1 s1
 go_region
 go_wp2
 go_end0
 exact ⟨rfl, HL.out.more (Below.refl _ _).drew⟩

theorem cutR_at (w : World) (ao : Option Addr) (l : List Rec) (cap : Nat) (hr : RdR w (.slice ao l.length cap) l) (i : Nat) (hi : i <= l.length) :
   ∃ a' c', RdR w (.slice a' (l.drop i).length c') (l.drop i) ∧ ∀ x : Int, x = (i : Int) -> ∀ W, (Instr.sliceAt 29 (.slice ao l.length cap) (some (.int .i64 x)) none none).run Tryz.prog W = .ok (.slice a' (l.drop i).length c') W := by
 have hlc : l.length <= cap := by
   obtain ⟨a, c, e, h, -⟩ := hr
   simp only [Value.slice.injEq] at e
   omega
 have h := hr.mid i l.length cap hi (Nat.le_refl _) hlc (Nat.le_refl _)
 rw [List.take_of_length_le (by rw [List.length_drop]; omega)] at h
 unfold sliced at h
 refine ⟨_, _, by rw [List.length_drop]; exact h, fun x hx W => ?_⟩
 subst hx
 rw [run_sliceAt_slice W 29 _ _ _ _ under_recs, run_slice_l W 29 ao l.length cap under_recs .i64 (i : Int) (by omega) (by omega), elem_recs, size_rec, List.length_drop]
 rfl

theorem StoL.toLog {M I : Nat -> Prop} {w : World} {p pd : Nat} {L : SLay} {s : Sto} (h : StoL M I w p pd L s) : LogM 79 w p 1 (stC pd L s) L.rv L.pv s.log :=
 ⟨h.head, rfl, rfl, rfl, h.recs, h.pcs⟩

theorem StoL.logF {M I : Nat -> Prop} {w : World} {p pd : Nat} {L : SLay} {s : Sto} (h : StoL M I w p pd L s) : ∀ k, LogF p L.rv L.pv k -> M k := fun k hk => by
 rcases hk with rfl | hk | hk
 · exact h.mh
 · exact h.mr k hk
 · exact h.mp k hk

theorem StoL.ofLog {M I : Nat -> Prop} {w w' : World} {p pd : Nat} {L : SLay} {s : Sto} {g : Lgb} (h : StoL M I w p pd L s) (hd : LogDid 79 w p 1 (stC pd L s) L.rv L.pv g w') :
   ∃ M' L', StoL M' I w' p pd L' { s with log := g } ∧ L'.nl = L.nl ∧ L'.nt = L.nt ∧ Only M w w' ∧ ∀ k, M' k -> M k ∨ w.heap.size <= k := by
 obtain ⟨rv', pv', hm, ho, hf⟩ := hd
 have hoM : Only M w w' := ho.mono h.logF
 have hI : ∀ k, I k -> w'.heap[k]? = w.heap[k]? := fun k hk => hoM.block k (h.ltI k hk) fun hm => h.dis k hm hk
 have hcs : ((((stC pd L s).setIfInBounds 1 (.int .i64 g.first)).setIfInBounds (1 + 1) rv').setIfInBounds (1 + 2) pv') = stC pd { L with rv := rv', pv := pv' } { s with log := g } := rfl
 rw [hcs] at hm
 have hlf : ∀ k, LogF p rv' pv' k -> k < w'.heap.size := fun k hk => by
   rcases hk with rfl | hk | hk
   · exact hm.blk.lt
   · obtain ⟨cs', hb⟩ := ownBkP hm.recs hk
     exact hb.lt
   · obtain ⟨cs', hb⟩ := ownBkP hm.pcs hk
     exact hb.lt
 have hbv : ∀ k, L.bv.ownBlock = some k -> ¬ LogF p L.rv L.pv k := fun k hk hl => by
   obtain ⟨cs', hb⟩ := ownBkP h.bases hk
   rcases hl with rfl | hl | hl
   · exact (hb.ne h.head (by decide)) rfl
   · obtain ⟨cs2, hb2⟩ := ownBkP h.recs hl
     exact (hb.ne hb2 (by decide)) rfl
   · obtain ⟨cs2, hb2⟩ := ownBkP h.pcs hl
     exact (hb.ne hb2 (by decide)) rfl
 refine ⟨fun k => M k ∨ LogF p rv' pv' k, { L with rv := rv', pv := pv' }, ⟨hm.blk, hm.recs, hm.pcs, ownsRow_keep h.bases fun k hk => ?_, h.bsEq, h.now.keep h.inow hI, fun x hx => (h.base x hx).keep (h.ibase x hx) hI, .inr (.inl rfl), fun k hk => .inr (.inr (.inl hk)), fun k hk => .inr (.inr (.inr hk)), fun k hk => .inl (h.mb k hk), h.inow, h.ibase, fun k hk => ?_, fun k hk => Nat.lt_of_lt_of_le (h.ltI k hk) hoM.size, fun k hk hi => ?_⟩, rfl, rfl, hoM, fun k hk => ?_⟩
 · obtain ⟨cs', hb⟩ := ownBkP h.bases hk
   exact ho.block k hb.lt (hbv k hk)
 · rcases hk with hk | hk
   · exact Nat.lt_of_lt_of_le (h.ltM k hk) hoM.size
   · exact hlf k hk
 · rcases hk with hk | hk
   · exact h.dis k hk hi
   · rcases hf k hk with h1 | h1
     · exact h.dis k (h.logF k h1) hi
     · have := h.ltI k hi
       omega
 · rcases hk with hk | hk
   · exact .inl hk
   · rcases hf k hk with h1 | h1
     · exact .inl (h.logF k h1)
     · exact .inr h1

theorem OwnR.own0 {w : World} {B : Nat} {v : Value} {l : List Rec} (h : OwnR w B v l) : OwnR w 0 v l := h.mono (Nat.zero_le _)

structure Stp where
 g : Nat
 bd : Array Value
 cp : Array Value

def Stp.val (s : Stp) : Value := .func (.func s.g) s.bd s.cp

set_option maxHeartbeats 2000000 in
theorem steps_any (b off cap : Nat) (n : Nat) (fs : Nat -> Stp) (w : World) (P : Nat -> World -> Prop) (Q : Int -> World -> Prop) (hn : n <= 1000000)
   (hcell : ∀ i W, i < n -> P i W -> W.cell? ⟨b, off + i, none⟩ = some (fs i).val)
   (hstep : ∀ i W, i < n -> P i W -> Calls Tryz.prog (fs i).g ((fs i).bd ++ (fs i).cp) W fun e w' => ∃ c : Int, e = .returned (.int .i64 c) ∧ (c = 0 -> P (i + 1) w') ∧ (c ≠ 0 -> Q c w'))
   (hent : ∀ i, i < n -> ∀ args W, (callFunc (fs i).g args).run Tryz.prog W = .ok (.enter (fs i).g args) W) (h0 : P 0 w) :
   Calls Tryz.prog 65 #[.slice (some ⟨b, off, none⟩) n cap] w fun e w' => ∃ c : Int, e = .returned (.int .i64 c) ∧ (c = 0 -> P n w') ∧ (c ≠ 0 -> Q c w') := by
 have HC := hide hcell
 have HS := hide hstep
 have HE := hide hent
 have hni : (n : Int) <= 1000000 := by omega
 clear hcell hstep hent
 have HP0 := hide h0
 clear h0
 go_enter Tryz.func65, Tryz.ntmps65
 go_wp2
 go_loopw [8] (fun vi wr => ∃ i : Nat, vi = .int .i64 (i : Int) ∧ i <= n ∧ Hid (P i wr)) (fun vi _ => n - (intOf vi).toNat)
 case atStart => exact ⟨0, rfl, Nat.zero_le _, HP0⟩
 case round =>
   clear HP0
   obtain ⟨i, rfl, hi, HP⟩ := hrel
   by_cases hlt : i < n
   case neg =>
     obtain rfl : i = n := by omega
     go_wp2
     go_ret
     exact ⟨0, rfl, fun _ => HP.out, fun h => absurd rfl h⟩
   have c0 := HC.out i wr hlt HP.out
   have HCA := hide (HS.out i wr hlt HP.out)
   have hE := HE.out i hlt
   unfold Stp.val at c0
   obtain ⟨g, hg⟩ : ∃ g, g = (fs i).g := ⟨_, rfl⟩
   obtain ⟨bd, hbd⟩ : ∃ bd, bd = (fs i).bd := ⟨_, rfl⟩
   obtain ⟨cp, hcp⟩ : ∃ cp, cp = (fs i).cp := ⟨_, rfl⟩
   rw [<- hg, <- hbd, <- hcp] at c0 HCA
   rw [<- hg] at hE
   have hii : (i : Int) < (n : Int) := by omega
   clear HP hg hbd hcp HC HS HE
   go_wp2_with fail
   refine HCA.out.mono ?_
   rintro e W1 ⟨c, rfl, hc0, hc1⟩
   by_cases hc : c = 0
   · subst hc
     have HP1 := hide (hc0 rfl)
     clear hc0 hc1 c0 hE HCA
     go_wp2
     go_roundw
     case rel => exact ⟨i + 1, by go_num, by omega, HP1⟩
     case measure => simp [intOf]; omega
   · have HQ := hide (hc1 hc)
     have hcb : (c != 0) = true := by rw [bne_iff_ne]; exact hc
     have HNZ := hide hc
     clear hc0 hc1 c0 hE HCA hc
     go_wp2
     go_ret
     exact ⟨c, rfl, fun h => absurd h HNZ.out, fun _ => HQ.out⟩

theorem StoL.setHead {M I : Nat -> Prop} {w : World} {p pd : Nat} {L : SLay} {s s' : Sto} (h : StoL M I w p pd L s) (j : Nat) (x : Value) (hlog : s'.log = s.log) (hbs : s'.bases = s.bases) (hnow : s'.now = s.now) (hc : (stC pd L s).setIfInBounds j x = stC pd L s') :
   StoL M I (w.setCell ⟨p, j, none⟩ x) p pd L s' := by
 have hk : ∀ k, k ≠ p -> (w.setCell ⟨p, j, none⟩ x).heap[k]? = w.heap[k]? := fun k hk => Below.heap_setCell _ _ _ _ hk
 have hne : ∀ {t : TypeId} {n sz g : Nat} {v : Value} {xs : List Value}, w.ownsRow 0 t sz v n xs -> v.ownBlock = some g -> t ≠ 79 -> g ≠ p := fun hr hg ht => by
   obtain ⟨cs', hb⟩ := ownBkP hr hg
   exact hb.ne h.head ht
 have hI : ∀ k, I k -> (w.setCell ⟨p, j, none⟩ x).heap[k]? = w.heap[k]? := fun k hi => hk k fun e => h.dis p h.mh (by rw [<- e]; exact hi)
 have hx : L.nx s' = L.nx s := by unfold SLay.nx; rw [hnow]
 refine ⟨by rw [<- hc]; exact h.head.set j x, ?_, ?_, ownsRow_keep h.bases fun g hg => hk g (hne h.bases hg (by decide)), by rw [hbs]; exact h.bsEq, by rw [hx]; exact h.now.keep h.inow hI, fun y hy => (h.base y hy).keep (h.ibase y hy) hI, h.mh, h.mr, h.mp, h.mb, by rw [hx]; exact h.inow, h.ibase, fun k hm => by simpa using h.ltM k hm, fun k hm => by simpa using h.ltI k hm, h.dis⟩
 · rw [hlog]
   exact ownsRow_keep h.recs fun g hg => hk g (hne h.recs hg (by decide))
 · rw [hlog]
   exact ownsRow_keep h.pcs fun g hg => hk g (hne h.pcs hg (by decide))

theorem SD.setHead {K : Nat -> Prop} {w : World} {pd p : Nat} {s s' : Sto} {d : Dk} {N T : Nat} (h : SD K w pd p s d N T) (hK : ∀ k, K k -> k < w.heap.size) (j : Nat) (x : Value) (hlog : s'.log = s.log) (hbs : s'.bases = s.bases) (hnow : s'.now = s.now) (hc : ∀ L, (stC pd L s).setIfInBounds j x = stC pd L s') :
   SD K (w.setCell ⟨p, j, none⟩ x) pd p s' d N T ∧ Only (fun k => ¬ K k) w (w.setCell ⟨p, j, none⟩ x) := by
 obtain ⟨F, M, I, L, h1, h2, h3, h4, h5, h6, h7⟩ := h
 exact SD.own hK h1 h3 h4 h5 h6 h7 ((Only.refl M w).setCell j (fun _ => h2.mh) x) (h2.setHead j x hlog hbs hnow (hc L)) (fun _ hk => .inl hk) (fun _ hk => .inl hk)

theorem SD.cells {K : Nat -> Prop} {w : World} {pd p : Nat} {s : Sto} {d : Dk} {N T : Nat} (h : SD K w pd p s d N T) :
   (w.cell? ⟨p, 0, none⟩ = some (ptr pd) ∧ w.cell? ⟨p, 11, none⟩ = some (.int .i64 s.synced) ∧ w.cell? ⟨p, 12, none⟩ = some (.int .i64 s.cur) ∧ w.cell? ⟨p, 13, none⟩ = some (.bool s.nw)) ∧ ∀ j, w.frozen? ⟨p, j, none⟩ = false := by
 obtain ⟨F, M, I, L, h1, h2, -⟩ := h
 obtain ⟨c0, -, -, -, -, -, c11, c12, c13⟩ := h2.cs
 exact ⟨⟨c0, c11, c12, c13⟩, h2.fz⟩

theorem syncDirS_any {K : Nat -> Prop} {pd p : Nat} {s : Sto} {d : Dk} {N T : Nat} (w : World) (h : SD K w pd p s d N T) (hK : ∀ k, K k -> k < w.heap.size) :
   Calls Tryz.prog 67 #[ptr p] w fun e w' => SDid K w pd p (syncDirS (s, d)) (N + 2) T e w' := by
 unfold syncDirS
 obtain ⟨⟨d', c⟩, hd⟩ : ∃ r, r = syncDirD d := ⟨_, rfl⟩
 have HC := hide (h.disk (d' := d') (c := c) (N' := N + 2) (T' := T) hK (fun F hF _ => by
   have := syncDir_any w hF
   rw [<- hd] at this
   exact this))
 obtain ⟨⟨c0, -⟩, -⟩ := h.cells
 dsimp only
 rw [<- hd]
 dsimp only
 have HK := hide hK
 obtain ⟨R, hR⟩ : ∃ R : SDk × Int, R = ((if c = 0 then { s with nw := false } else s, d'), c) := ⟨_, rfl⟩
 rw [<- hR]
 have HR := hide hR
 clear h hd hK hR
 go_enter Tryz.func67, Tryz.ntmps67
 go_wp2_with fail
 refine HC.out.mono ?_
 rintro e W1 ⟨rfl, hs1, ho1⟩
 have HS1 := hide hs1
 have HO1 := hide ho1
 have HKW : Hid (∀ k, K k -> k < W1.heap.size) := hide (fun k hk => Nat.lt_of_lt_of_le (HK.out k hk) ho1.size)
 obtain ⟨⟨-, -, -, c13⟩, fz⟩ := hs1.cells
 have f13 := fz 13
 clear hs1 ho1 HC c0 fz
 by_cases hc : c = 0
 · subst hc
   rw [if_pos rfl] at HR
   have HF := hide (HS1.out.setHead (s' := { s with nw := false }) HKW.out 13 (.bool false) rfl rfl rfl (fun _ => rfl))
   go_wp2
   go_ret
   rw [HR.out]
   exact ⟨rfl, HF.out.1, HO1.out.trans HF.out.2 (fun _ _ h => h)⟩
 · rw [if_neg hc] at HR
   have hcb : (c == 0) = false := beq_eq_false_iff_ne.2 hc
   clear hc
   go_wp2
   go_ret
   rw [HR.out]
   exact ⟨rfl, HS1.out, HO1.out⟩

theorem keepNameS_any {K : Nat -> Prop} {pd p : Nat} {s : Sto} {d : Dk} {N T : Nat} (w : World) (h : SD K w pd p s d N T) (hK : ∀ k, K k -> k < w.heap.size) :
   Calls Tryz.prog 74 #[ptr p] w fun e w' => SDid K w pd p (keepNameS (s, d)) (N + 2) T e w' := by
 unfold keepNameS
 have HC := hide (syncDirS_any w h hK)
 obtain ⟨⟨-, -, -, c13⟩, -⟩ := h.cells
 have HS := hide h
 dsimp only
 cases hb : s.nw with
 | false =>
   rw [hb] at c13
   rw [if_neg (by simp)]
   clear h hb HC
   go_enter Tryz.func74, Tryz.ntmps74
   go_wp2
   go_ret
   exact ⟨rfl, HS.out.mono (by omega) (Nat.le_refl _), Only.refl _ _⟩
 | true =>
   rw [hb] at c13
   rw [if_pos rfl]
   obtain ⟨r, hr⟩ : ∃ r, r = syncDirS (s, d) := ⟨_, rfl⟩
   rw [<- hr] at HC ⊢
   clear h hb HS hr
   go_enter Tryz.func74, Tryz.ntmps74
   go_wp2_with fail
   refine HC.out.mono ?_
   rintro e W1 ⟨rfl, hs1, ho1⟩
   have HS1 := hide (And.intro hs1 ho1)
   clear hs1 ho1 HC
   go_wp2
   go_ret
   exact ⟨rfl, HS1.out⟩

theorem SDid.from {K K2 : Nat -> Prop} {w W : World} {pd p : Nat} {r : SDk × Int} {N T N' T' : Nat} {e : Ending} {w' : World} (h : SDid K2 W pd p r N T e w') (hK : ∀ k, K k -> K2 k) (ho : Only (fun k => ¬ K k) w W) (hN : N <= N') (hT : T <= T') : SDid K w pd p r N' T' e w' :=
 ⟨h.1, (h.2.1.less hK).mono hN hT, ho.trans (h.2.2.mono (fun k hk hn => hk (hK k hn))) (fun _ _ h => h)⟩

theorem SD.step {K : Nat -> Prop} {w : World} {pd p : Nat} {s : Sto} {d : Dk} {N T N' T' : Nat} {f : Nat} {args : Array Value} (g : Dk -> Dk × Int) (h : SD K w pd p s d N T) (hK : ∀ k, K k -> k < w.heap.size)
   (hc : ∀ F, Dsk F w pd d N T -> (∀ k, F k -> ¬ K k) -> Calls Tryz.prog f args w fun e w' => DidF F w pd (g d).1 (g d).2 N' T' e w') : Calls Tryz.prog f args w fun e w' => SDid K w pd p (diskS g (s, d)) N' T' e w' :=
 h.disk hK hc

set_option maxHeartbeats 1000000 in
theorem syncFile_any {K : Nat -> Prop} {pd p R : Nat} {s : Sto} {d : Dk} {N T : Nat} (w : World) (h : SD K w pd p s d N T) (hK : ∀ k, K k -> k < w.heap.size) (hR : w.cell? ⟨R, 0, none⟩ = some (ptr p)) (hcu : I64 s.cur) :
   Calls Tryz.prog 73 #[.pointer (some ⟨R, 0, none⟩)] w fun e w' => SDid K w pd p (syncFileS (s, d)) (N + 2) T e w' := by
 have HC := hide ((h.below (Below.refl _ _).drew).step (fun d => syncD d s.cur) hK (fun F hF _ => sync_any s.cur hcu _ hF))
 obtain ⟨⟨c0, -, c12, -⟩, -⟩ := h.cells
 have HO : Hid (Only (fun k => ¬ K k) w w.drew) := hide (Only.ofBelow (Below.refl _ _).drew)
 obtain ⟨r, hr⟩ : ∃ r, r = syncFileS (s, d) := ⟨_, rfl⟩
 have e1 : diskS (fun d => syncD d s.cur) (s, d) = r := hr.symm
 rw [e1] at HC
 rw [<- hr]
 generalize s.cur = cu at *
 clear h hK hcu e1 hr
 go_enter Tryz.func73, Tryz.ntmps73
 go_upto_region 1 with fail
 go_region_with (first | (go_at_call 62; refine HC.out.mono ?_; rintro e W1 ⟨rfl, hs1, ho1⟩; have HS1 := hide (And.intro hs1 ho1); clear hs1 ho1))
 all_goals
   go_wp2
   go_ret
   exact ⟨rfl, HS1.out.1, HO.out.trans HS1.out.2 (fun _ _ h => h)⟩

theorem seq_sync (x : SDk) : (seqS [syncFileS, keepNameS] x).1.1 = x.1 ∨ (seqS [syncFileS, keepNameS] x).1.1 = { x.1 with nw := false } := by
 unfold seqS seqS
 split
 · split
   · unfold seqS keepNameS syncDirS
     split
     · dsimp only
       split
       · exact .inr rfl
       · exact .inl rfl
     · exact .inl rfl
   · unfold keepNameS syncDirS
     split
     · dsimp only
       split
       · exact .inr rfl
       · exact .inl rfl
     · exact .inl rfl
 · exact .inl rfl

theorem NumS.nw {s : Sto} (h : NumS s) (b : Bool) : NumS { s with nw := b } := ⟨h.f0, h.f1, h.sy, h.cu⟩

theorem SD.synced {K : Nat -> Prop} {w : World} {pd p : Nat} {s : Sto} {d : Dk} {N T : Nat} (h : SD K w pd p s d N T) (hK : ∀ k, K k -> k < w.heap.size) :
   SD K (w.setCell ⟨p, 11, none⟩ (.int .i64 s.next)) pd p (syncedS s) d N T ∧ Only (fun k => ¬ K k) w (w.setCell ⟨p, 11, none⟩ (.int .i64 s.next)) :=
 h.setHead hK 11 _ rfl rfl rfl (fun _ => rfl)

theorem SD.next {K : Nat -> Prop} {w : World} {pd p : Nat} {s : Sto} {d : Dk} {N T : Nat} (h : SD K w pd p s d N T) (hn : NumS s) :
   Calls Tryz.prog 16 #[ptr p] w fun e w' => e = .returned (.int .i64 s.next) ∧ Below w.heap.size w w' := by
 obtain ⟨F, M, I, L, h1, h2, -⟩ := h
 exact nextS_any w h2 hn

set_option maxHeartbeats 4000000 in
theorem syncS_any {K : Nat -> Prop} {pd p : Nat} {s : Sto} {d : Dk} {N T : Nat} (w : World) (h : SD K w pd p s d N T) (hK : ∀ k, K k -> k < w.heap.size) (hn : NumS s) :
   Calls Tryz.prog 32 #[ptr p] w fun e w' => SDid K w pd p (syncS (s, d)) (N + 4) T e w' := by
 obtain ⟨W0, hW0⟩ : ∃ W0, W0 = w.alloc (.cells #[ptr p] 28) := ⟨_, rfl⟩
 have HB0 : Hid (Below w.heap.size w W0) := hide (by rw [hW0]; exact allocB _ _)
 have HX : Hid (Bk 28 W0 w.heap.size #[ptr p]) := hide (by rw [hW0]; exact heap_alloc_new w _)
 obtain ⟨K1, hK1⟩ : ∃ K1 : Nat -> Prop, K1 = fun k => K k ∨ (w.heap.size <= k ∧ k < W0.heap.size) := ⟨_, rfl⟩
 have HS0 : Hid (SD K1 W0 pd p s d N T) := hide (by rw [hK1]; exact h.fresh HB0.out)
 have HKL : Hid (∀ k, K1 k -> k < W0.heap.size) := hide (by
   rw [hK1]
   intro k hk
   rcases hk with hk | hk
   · exact Nat.lt_of_lt_of_le (hK k hk) HB0.out.size
   · exact hk.2)
 have HKK : Hid (∀ k, K k -> K1 k) := hide (by rw [hK1]; exact fun k hk => .inl hk)
 have HKR : Hid (K1 w.heap.size) := hide (by rw [hK1]; exact .inr ⟨Nat.le_refl _, HX.out.lt⟩)
 have HO0 : Hid (Only (fun k => ¬ K k) w W0) := hide (Only.ofBelow HB0.out)
 have HRC : Hid (∀ W, Only (fun k => ¬ K1 k) W0 W -> W.cell? ⟨w.heap.size, 0, none⟩ = some (ptr p)) := hide (fun W ho => ((HX.out.keep (ho.block _ HX.out.lt (fun hn => hn HKR.out))).cell 0 rfl).1)
 have HNS := hide hn
 have r0 := HRC.out W0 (Only.refl _ _)
 obtain ⟨⟨-, -, c12, -⟩, -⟩ := HS0.out.cells
 obtain ⟨res, hres⟩ : ∃ res, res = syncS (s, d) := ⟨_, rfl⟩
 have HRES := hide hres
 rw [<- hres]
 clear h hK hK1 hres
 by_cases hc : s.cur = 0
 · have hcb : (s.cur != 0) = false := by rw [hc]; rfl
   have HR : Hid (res = ((syncedS s, d), 0)) := hide (by rw [HRES.out]; unfold syncS; rw [if_pos hc])
   have HNX : Hid (∀ W, Below W0.heap.size W0 W -> Calls Tryz.prog 16 #[ptr p] W fun e w' => e = .returned (.int .i64 s.next) ∧ Below W0.heap.size W0 w') := hide (fun W hW => ((HS0.out.below hW).next HNS.out).mono (by
     rintro e w' ⟨rfl, hb⟩
     exact ⟨rfl, hW.trans (hb.mono hW.size)⟩))
   have HKP : Hid (∀ W, Below W0.heap.size W0 W -> W.cell? ⟨w.heap.size, 0, none⟩ = some (ptr p) ∧ W.cell? ⟨p, 11, none⟩ = some (.int .i64 s.synced) ∧ W.frozen? ⟨p, 11, none⟩ = false) := hide (fun W hW => by
     obtain ⟨⟨-, c11, -⟩, fz⟩ := (HS0.out.below hW).cells
     exact ⟨HRC.out W (Only.ofBelow hW), c11, fz 11⟩)
   have HSD : Hid (Below W0.heap.size W0 W0.drew) := hide (Below.refl _ _).drew
   have HFI : Hid (∀ W, Below W0.heap.size W0 W -> SDid K w pd p res (N + 4) T (.returned (.int .i64 0)) (W.setCell ⟨p, 11, none⟩ (.int .i64 s.next))) := hide (fun W hW => by
     rw [HR.out]
     have h2 := (HS0.out.below hW).synced (fun k hk => Nat.lt_of_lt_of_le (HKL.out k hk) hW.size)
     exact SDid.from (K2 := K1) (W := W) ⟨rfl, h2.1, h2.2⟩ HKK.out (HO0.out.trans (Only.ofBelow (F := fun _ => False) hW) (fun _ _ h => h.elim)) (by omega) (Nat.le_refl _))
   generalize s.next = nx at *
   generalize s.cur = cu at *
   clear hc HR HRES hn
   go_enter Tryz.func32, Tryz.ntmps32
   go_upto_region 1 with fail
   rw [<- hW0]
   clear hW0
   go_upto_region 6 with fail
   go_region_with (first | (go_at_call 16; refine (HNX.out _ (by first | exact HSD.out | exact Below.refl _ _)).mono ?_; rintro e W1 ⟨rfl, hb1⟩; have HB1 := hide hb1; obtain ⟨q0, q11, qf⟩ := HKP.out W1 hb1; clear hb1))
   all_goals
     go_wp2
     go_ret
     exact HFI.out _ HB1.out
 · have hcb : (s.cur != 0) = true := by rw [bne_iff_ne]; exact hc
   obtain ⟨R0, hR0⟩ : ∃ R0, R0 = seqS [syncFileS, keepNameS] (s, d) := ⟨_, rfl⟩
   have HR : Hid (res = if R0.2 = 0 then ((syncedS R0.1.1, R0.1.2), 0) else R0) := hide (by rw [HRES.out, hR0]; unfold syncS; rw [if_neg hc])
   have HN0 : Hid (NumS R0.1.1) := hide (by
     rcases seq_sync (s, d) with hh | hh
     · rw [hR0, hh]; exact HNS.out
     · rw [hR0, hh]; exact HNS.out.nw false)
   obtain ⟨W1, hW1⟩ : ∃ W1, W1 = W0.alloc (.cells #[.func (.func 73) #[] #[.pointer (some ⟨w.heap.size, 0, none⟩)], .func (.func 74) #[ptr p] #[]] 155) := ⟨_, rfl⟩
   have HB1 : Hid (Below W0.heap.size W0 W1) := hide (by rw [hW1]; exact allocB _ _)
   have HY : Hid (Bk 155 W1 W0.heap.size #[.func (.func 73) #[] #[.pointer (some ⟨w.heap.size, 0, none⟩)], .func (.func 74) #[ptr p] #[]]) := hide (by rw [hW1]; exact heap_alloc_new W0 _)
   obtain ⟨K2, hK2⟩ : ∃ K2 : Nat -> Prop, K2 = fun k => K1 k ∨ (W0.heap.size <= k ∧ k < W1.heap.size) := ⟨_, rfl⟩
   have HS1 : Hid (SD K2 W1 pd p s d N T) := hide (by rw [hK2]; exact HS0.out.fresh HB1.out)
   have HKL2 : Hid (∀ k, K2 k -> k < W1.heap.size) := hide (by
     rw [hK2]
     intro k hk
     rcases hk with hk | hk
     · exact Nat.lt_of_lt_of_le (HKL.out k hk) HB1.out.size
     · exact hk.2)
   have HK12 : Hid (∀ k, K1 k -> K2 k) := hide (by rw [hK2]; exact fun k hk => .inl hk)
   have HK2Y : Hid (K2 W0.heap.size) := hide (by rw [hK2]; exact .inr ⟨Nat.le_refl _, HY.out.lt⟩)
   have HSTEPS : Hid (Calls Tryz.prog 65 #[.slice (some ⟨W0.heap.size, 0, none⟩) 2 2] W1 fun e w' => ∃ c : Int, e = .returned (.int .i64 c) ∧ (c = 0 -> SD K2 w' pd p R0.1.1 R0.1.2 (N + 4) T ∧ R0.2 = 0 ∧ Only (fun k => ¬ K2 k) W1 w') ∧ (c ≠ 0 -> SD K2 w' pd p R0.1.1 R0.1.2 (N + 4) T ∧ R0.2 = c ∧ Only (fun k => ¬ K2 k) W1 w')) := hide (by
     have hs := steps_any W0.heap.size 0 2 2 (fun i => if i = 0 then ⟨73, #[], #[.pointer (some ⟨w.heap.size, 0, none⟩)]⟩ else ⟨74, #[ptr p], #[]⟩) W1
       (fun i W => Only (fun k => ¬ K2 k) W1 W ∧ (i = 0 -> SD K2 W pd p s d N T) ∧ (i = 1 -> (syncFileS (s, d)).2 = 0 ∧ SD K2 W pd p (syncFileS (s, d)).1.1 (syncFileS (s, d)).1.2 (N + 2) T) ∧ (i = 2 -> R0.2 = 0 ∧ SD K2 W pd p R0.1.1 R0.1.2 (N + 4) T))
       (fun c W => SD K2 W pd p R0.1.1 R0.1.2 (N + 4) T ∧ R0.2 = c ∧ Only (fun k => ¬ K2 k) W1 W) (by decide)
       (fun i W hi hP => by
         have hb := HY.out.keep (hP.1.block _ HY.out.lt (fun hn => hn HK2Y.out))
         match i, hi with
         | 0, _ => exact (hb.cell 0 rfl).1
         | 1, _ => exact (hb.cell 1 rfl).1)
       (fun i W hi hP => by
         have hKW : ∀ k, K2 k -> k < W.heap.size := fun k hk => Nat.lt_of_lt_of_le (HKL2.out k hk) hP.1.size
         match i, hi with
         | 0, _ =>
           refine (syncFile_any (R := w.heap.size) W (hP.2.1 rfl) hKW (HRC.out W ((Only.ofBelow HB1.out).trans (hP.1.mono (fun k hk hn => hk (HK12.out k hn))) (fun _ _ h => h))) HNS.out.cu).mono ?_
           rintro e w' ⟨rfl, h2, h3⟩
           refine ⟨_, rfl, fun hz => ⟨hP.1.trans h3 (fun _ _ h => h), fun h => absurd h (by decide), fun _ => ⟨hz, h2⟩, fun h => absurd h (by decide)⟩, fun hz => ?_⟩
           have e1 : R0 = syncFileS (s, d) := by rw [hR0]; unfold seqS; rw [if_neg hz]
           rw [e1]
           exact ⟨h2.mono (by omega) (Nat.le_refl _), rfl, hP.1.trans h3 (fun _ _ h => h)⟩
         | 1, _ =>
           obtain ⟨hz0, hs1⟩ := hP.2.2.1 rfl
           refine (keepNameS_any W hs1 hKW).mono ?_
           rintro e w' ⟨rfl, h2, h3⟩
           have e2 : keepNameS ((syncFileS (s, d)).1.1, (syncFileS (s, d)).1.2) = keepNameS (syncFileS (s, d)).1 := rfl
           rw [e2] at h2 ⊢
           have e1 : (keepNameS (syncFileS (s, d)).1).1 = R0.1 ∧ (keepNameS (syncFileS (s, d)).1).2 = R0.2 := by
             rw [hR0]
             unfold seqS
             rw [if_pos hz0]
             unfold seqS
             split
             · rename_i hz
               exact ⟨rfl, hz⟩
             · exact ⟨rfl, rfl⟩
           rw [e1.1] at h2
           exact ⟨_, rfl, fun hz => ⟨hP.1.trans h3 (fun _ _ h => h), fun h => absurd h (by decide), fun h => absurd h (by decide), fun _ => ⟨by rw [<- e1.2]; exact hz, h2⟩⟩, fun hz => ⟨h2, e1.2.symm, hP.1.trans h3 (fun _ _ h => h)⟩⟩)
       (fun i hi => by
         match i, hi with
         | 0, _ => exact enters_of Tryz.func73 (by kernel_rfl) rfl
         | 1, _ => exact enters_of Tryz.func74 (by kernel_rfl) rfl)
       ⟨Only.refl _ _, fun _ => HS1.out, fun h => absurd h (by decide), fun h => absurd h (by decide)⟩
     refine hs.mono ?_
     rintro e w' ⟨c, rfl, g1, g2⟩
     refine ⟨c, rfl, fun hz => ?_, g2⟩
     obtain ⟨h1, -, -, h4⟩ := g1 hz
     exact ⟨(h4 rfl).2, (h4 rfl).1, h1⟩)
   have HO1 : Hid (Only (fun k => ¬ K k) w W1) := hide (HO0.out.trans (Only.ofBelow (F := fun _ => False) HB1.out) (fun _ _ h => h.elim))
   have HKK2 : Hid (∀ k, K k -> K2 k) := hide (fun k hk => HK12.out k (HKK.out k hk))
   have HRC2 : Hid (∀ W, Only (fun k => ¬ K2 k) W1 W -> W.cell? ⟨w.heap.size, 0, none⟩ = some (ptr p)) := hide (fun W ho => HRC.out W ((Only.ofBelow HB1.out).trans (ho.mono (fun k hk hn => hk (HK12.out k hn))) (fun _ _ h => h)))
   have HWW := hide hW1
   have HS0' := HS0
   generalize s.cur = cu at *
   clear hc hR0 hK2 hn hW1
   go_enter Tryz.func32, Tryz.ntmps32
   go_upto_region 1 with fail
   rw [<- hW0]
   clear hW0
   go_wp2_with (go_at_call 65; rw [<- HWW.out]; refine HSTEPS.out.mono ?_)
   rintro e W2 ⟨c, rfl, hc0, hc1⟩
   clear HWW r0 c12
   by_cases hc : c = 0
   · subst hc
     obtain ⟨hs2, hz, ho2⟩ := hc0 rfl
     have HR2 : Hid (res = ((syncedS R0.1.1, R0.1.2), 0)) := hide (by rw [HR.out, if_pos hz])
     have HKW : Hid (∀ k, K2 k -> k < W2.heap.size) := hide (fun k hk => Nat.lt_of_lt_of_le (HKL2.out k hk) ho2.size)
     have HS2 := hide hs2
     have HO2 := hide ho2
     have HNX : Hid (∀ W, Below W2.heap.size W2 W -> Calls Tryz.prog 16 #[ptr p] W fun e w' => e = .returned (.int .i64 R0.1.1.next) ∧ Below W2.heap.size W2 w') := hide (fun W hW => ((HS2.out.below hW).next HN0.out).mono (by
       rintro e w' ⟨rfl, hb⟩
       exact ⟨rfl, hW.trans (hb.mono hW.size)⟩))
     have HKP : Hid (∀ W, Below W2.heap.size W2 W -> W.cell? ⟨w.heap.size, 0, none⟩ = some (ptr p) ∧ W.cell? ⟨p, 11, none⟩ = some (.int .i64 R0.1.1.synced) ∧ W.frozen? ⟨p, 11, none⟩ = false) := hide (fun W hW => by
       obtain ⟨⟨-, c11, -⟩, fz⟩ := (HS2.out.below hW).cells
       exact ⟨HRC2.out W (HO2.out.trans (Only.ofBelow (F := fun _ => False) hW) (fun _ _ h => h.elim)), c11, fz 11⟩)
     have HSD : Hid (Below W2.heap.size W2 W2.drew) := hide (Below.refl _ _).drew
     have HFI : Hid (∀ W, Below W2.heap.size W2 W -> SDid K w pd p res (N + 4) T (.returned (.int .i64 0)) (W.setCell ⟨p, 11, none⟩ (.int .i64 R0.1.1.next))) := hide (fun W hW => by
       rw [HR2.out]
       have h2 := (HS2.out.below hW).synced (fun k hk => Nat.lt_of_lt_of_le (HKW.out k hk) hW.size)
       exact SDid.from (K2 := K2) (W := W) ⟨rfl, h2.1, h2.2⟩ HKK2.out ((HO1.out.trans (HO2.out.mono (fun k hk hn => hk (HKK2.out k hn))) (fun _ _ h => h)).trans (Only.ofBelow (F := fun _ => False) hW) (fun _ _ h => h.elim)) (by omega) (Nat.le_refl _))
     obtain ⟨q0, q11, qf⟩ := HKP.out W2 (Below.refl _ _)
     generalize R0.1.1.next = nx at *
     generalize R0.1.1.synced = sy at *
     clear hc0 hc1 hs2 hz ho2 HR HRES
     go_upto_region 6 with fail
     go_region_with (first | (go_at_call 16; refine (HNX.out _ (by first | exact HSD.out | exact Below.refl _ _)).mono ?_; rintro e W3 ⟨rfl, hb3⟩; have HB3 := hide hb3; obtain ⟨x0, x11, xf⟩ := HKP.out W3 hb3; clear hb3))
     all_goals
       go_wp2
       go_ret
       exact HFI.out _ HB3.out
   · obtain ⟨hs2, hz, ho2⟩ := hc1 hc
     have HFI : Hid (SDid K w pd p res (N + 4) T (.returned (.int .i64 c)) W2) := hide (by
       rw [HR.out, if_neg (by rw [hz]; exact hc)]
       exact SDid.from (K2 := K2) (W := W1) ⟨by rw [hz], hs2, ho2⟩ HKK2.out HO1.out (Nat.le_refl _) (Nat.le_refl _))
     have hcb2 : (c != 0) = true := by rw [bne_iff_ne]; exact hc
     clear hc0 hc1 hs2 hz ho2 HR HRES hc
     go_wp2
     go_ret
     exact HFI.out

theorem Own.empty {w : World} {B : Nat} {X : Obj} {cur : Array Value} {N : Nat} (hN : w.heap.size = N) (hX : X = .cells cur 5 (0, 0)) (hB : B <= N) (cap : Nat) (hm : cap <= maxLen) (hs : cur.size = cap) : Own (w.alloc X) B (.slice (some ⟨N, 0, none⟩) 0 cap) [] := by
 subst hN hX
 have h := World.ownsRow_made (e := 5) (size := 1) (base := B) w cur cap hB hm (by omega)
 exact h

set_option maxHeartbeats 1000000 in
theorem grow_nil (n : Nat) (w : World) (hn : n <= 1000000) :
   Calls Tryz.prog 185 #[.slice none 0 0, .int .i64 (n : Int)] w fun e w' => ∃ v', e = .returned v' ∧ Own w' w.heap.size v' [] ∧ Below w.heap.size w w' := by
 obtain ⟨i0, hi, hz0, hz1, hz2⟩ := info_parts info8
 by_cases h0 : n = 0
 · subst h0
   go_enter Tryz.func185, Tryz.ntmps185
   go_wp2
   go_ret
   exact ⟨_, rfl, Own.nil _ _, Below.refl _ _⟩
 · have hrz : ∀ ty, (Builtin.append_ #[53, 3] ty #[.slice none 0 0, .int .i64 (n : Int)]).run Tryz.prog w =
       .ok (.slice (some ⟨w.heap.size, 0, none⟩) n (grownCap w n 0 5)) (w.drew.alloc (.cells (#[] ++ Builtin.zeroCells #[.int .u8 0] n ++ Builtin.zeroCells #[.int .u8 0] (grownCap w n 0 5 - n)) 5)) := fun ty => by
     have h := Lib.run_append_grow_zeros (P := Tryz.prog) w 53 3 ty 5 i0 (.int .u8 0) .i64 .i64 Tryz.underlying53 Tryz.underlying3 hi hz0 none 0 0 [] (run_firstCells_none w.drew i0.size 0 0 0) n (by omega) (by omega) (by omega) (by omega) (by rw [hz2]; omega)
       (by rw [Nat.zero_add]; exact growslice_fits (by omega) (by rw [hz2]; omega))
     rw [Nat.zero_add] at h
     exact h
   have hGn : n <= grownCap w n 0 5 := grownCap_ge w _ _ _
   have hGm := grownCap_le_maxLen w n 0 5 (by unfold maxLen; omega)
   generalize grownCap w n 0 5 = G at *
   have hG63 : G <= 9223372036854775807 := by
     unfold maxLen at hGm
     omega
   have hZ : (#[] ++ Builtin.zeroCells #[Value.int .u8 0] n ++ Builtin.zeroCells #[Value.int .u8 0] (G - n)).size = G := by
     simp [Builtin.zeroCells]
     omega
   generalize (#[] ++ Builtin.zeroCells #[Value.int .u8 0] n ++ Builtin.zeroCells #[Value.int .u8 0] (G - n)) = Z at *
   have hpos : (0 : Int) < (n : Int) := by omega
   have HO : Hid (Own (w.drew.alloc (.cells Z 5)) w.heap.size (.slice (some ⟨w.heap.size, 0, none⟩) 0 G) []) := hide (Own.empty rfl rfl (Nat.le_refl _) G hGm hZ)
   have HB : Hid (Below w.heap.size w (w.drew.alloc (.cells Z 5))) := hide (((Below.refl _ _).drew).alloc (Nat.le_refl _) _)
   clear hZ hGm
   go_enter Tryz.func185, Tryz.ntmps185
   go_wp2_with (at_builtin; refine Lib.wpList_append_run _ rfl _ _ _ _ rfl _ _ rfl rfl _ _ (hrz _) ?_)
   all_goals (go_ret; exact ⟨_, rfl, HO.out, HB.out⟩)

theorem flat_snoc (L : List (List UInt8)) (k : Nat) (hk : k < L.length) : (L.take (k + 1)).flatten = (L.take k).flatten ++ L.getD k [] := by
 have e : L.take (k + 1) = L.take k ++ [L.getD k []] := by
   rw [List.take_add_one]
   simp [List.getD, hk]
 rw [e, List.flatten_append]
 simp

theorem flat_le (L : List (List UInt8)) (k : Nat) : ((L.take k).flatten).length <= L.flatten.length := by
 have e : L.flatten = (L.take k).flatten ++ (L.drop k).flatten := by rw [<- List.flatten_append, List.take_append_drop]
 rw [e, List.length_append]
 omega

def flen (L : List (List UInt8)) (k : Nat) : Nat := (L.take k).flatten.length

def flat (L : List (List UInt8)) (k : Nat) : List UInt8 := (L.take k).flatten

theorem flat_next (L : List (List UInt8)) (k : Nat) (hk : k < L.length) : flat L (k + 1) = flat L k ++ L.getD k [] := flat_snoc L k hk

theorem flen_next (L : List (List UInt8)) (k : Nat) (hk : k < L.length) : (flen L (k + 1) : Int) = (flen L k : Int) + ((L.getD k []).length : Int) := by
 unfold flen
 rw [flat_snoc L k hk, List.length_append]
 omega

theorem flen_le (L : List (List UInt8)) (k : Nat) : flen L k <= L.flatten.length := flat_le L k

theorem flat_len (L : List (List UInt8)) (k : Nat) : (flat L k).length = flen L k := rfl

theorem flat_all (L : List (List UInt8)) (k : Nat) (hk : L.length <= k) : flat L k = L.flatten := by
 unfold flat
 rw [List.take_of_length_le hk]

set_option maxHeartbeats 1000000 in
theorem concat_any (v : Value) (L : List (List UInt8)) (w : World) (hr : RdL w v L) (hlim : L.flatten.length <= 1000000) (hn : L.length <= 1000) :
   Calls Tryz.prog 135 #[v] w fun e w' => ∃ v', e = .returned v' ∧ Own w' w.heap.size v' L.flatten ∧ Below w.heap.size w w' := by
 have HG := hide (fun n W h => grow_nil n W h)
 have HRL := hide hr
 have HLE : Hid (∀ k, flen L k <= 1000000) := fun k => Nat.le_trans (flen_le L k) hlim
 have HFN := hide (flen_next L)
 have HFS := hide (flat_next L)
 have HFA := hide (flat_all L)
 have HFL := hide (flat_len L)
 obtain ⟨F, hF⟩ : ∃ F, F = L.flatten := ⟨_, rfl⟩
 rw [<- hF]
 rw [<- hF] at HFA
 obtain ⟨ao, cap, rfl, -, -, -, hao⟩ := hr
 have HAO := hide hao
 clear hao hF hlim
 go_enter Tryz.func135, Tryz.ntmps135
 go_wp2
 go_loopw [3, 11] (fun vs vi wr => ∃ (k : Nat), vs = .int .i64 (flen L k : Int) ∧ vi = .int .i64 (k : Int) ∧ k <= L.length ∧ wr = w) (fun _ vi _ => L.length - (intOf vi).toNat)
 case atStart => exact ⟨0, rfl, rfl, Nat.zero_le _, rfl⟩
 case round =>
   obtain ⟨k, rfl, rfl, hk, hwr⟩ := hrel
   have hwr2 := hwr.symm
   subst hwr2
   clear hwr
   by_cases hlt : k < L.length
   · rcases HAO.out with h0 | ⟨c, off, rfl, hc⟩
     · rw [h0] at hlt; simp at hlt
     obtain ⟨x, hx, hrx⟩ := hc k hlt
     have h1 := HLE.out (k + 1)
     have h2 := HFN.out k hlt
     obtain ⟨ax, cx, rfl, -⟩ := hrx
     have h3 : ¬ ((flen L k : Int) + ((L.getD k []).length : Int) < 0) := by omega
     have h4 : (flen L k : Int) + ((L.getD k []).length : Int) <= 1000000 := by omega
     have H2 := hide h2
     clear hc h1 h2
     generalize flen L k = A at *
     generalize (L.getD k []).length = D at *
     go_wp2
     go_roundw
     case rel => exact ⟨k + 1, by rw [H2.out], by go_num, by omega, trivial⟩
     case measure => simp [intOf]; omega
   · have HGG := hide (HG.out (flen L k) w (HLE.out k))
     generalize flen L k = A at *
     go_wp2_with fail
     refine HGG.out.mono ?_
     rintro e W1 ⟨v1, rfl, ho1, hb1⟩
     have HO1 := hide ho1
     have HB1 := hide hb1
     clear ho1 hb1 hk hlt
     go_wp2
     go_loopw [6, 27] (fun vo vi w2 => ∃ (j : Nat), vi = .int .i64 (j : Int) ∧ j <= L.length ∧ Hid (Own w2 w.heap.size vo (flat L j)) ∧ Hid (Below w.heap.size w w2)) (fun _ vi _ => L.length - (intOf vi).toNat)
     case atStart => exact ⟨0, rfl, Nat.zero_le _, HO1, HB1⟩
     case round =>
       clear HO1 HB1
       obtain ⟨j, rfl, hj, HO2, HB2⟩ := hrel
       by_cases hjl : j < L.length
       · rcases HAO.out with h0 | ⟨c, off, rfl, hc⟩
         · rw [h0] at hjl; simp at hjl
         obtain ⟨x, hx0, hrx⟩ := hc j hjl
         have hx := (HB2.out.cell (World.block_lt_of_cell? _ _ hx0)).trans hx0
         have HRX := hide (hrx.below HB2.out (Nat.le_refl _))
         obtain ⟨ax, cx, rfl, -⟩ := hrx
         have HLL : Hid ((flat L j).length + (L.getD j []).length <= 70368744177664) := hide (by
           have h1 := HLE.out (j + 1)
           have h2 := HFN.out j hjl
           rw [HFL.out]
           omega)
         have HSZ := hide HB2.out.size
         have HN := hide (HFS.out j hjl)
         clear hc hx0
         generalize L.getD j [] = D at *
         generalize flat L j = P at *
         go_wp2_with (at_builtin; refine wpList_append_rd _ rfl _ _ rfl w.heap.size _ P rfl HO2.out _ D rfl HRX.out HLL.out HSZ.out ?_)
         intro v3 W3 ho3 hb3
         rw [<- HN.out] at ho3
         have HO3 := hide ho3
         have HB3 := hide (HB2.out.trans hb3)
         clear ho3 hb3
         go_wp2
         go_roundw
         case rel => exact ⟨j + 1, by go_num, by omega, HO3, HB3⟩
         case measure => simp [intOf]; omega
       · have HE := hide (HFA.out j (by omega))
         rw [HE.out] at HO2
         go_wp2
         go_ret
         exact ⟨_, rfl, HO2.out, HB2.out⟩

theorem RdL.built (W : World) (N : Nat) (hN : N = W.heap.size) (vs : Array Value) (L : List (List UInt8)) (hl : L.length <= 1000) (h : ∀ j, j < L.length -> ∃ x, vs[j]? = some x ∧ Rd W x (L.getD j [])) :
   RdL (W.alloc (.cells vs 53)) (.slice (some ⟨N, 0, none⟩) L.length L.length) L := by
 subst hN
 refine ⟨some ⟨W.heap.size, 0, none⟩, L.length, rfl, Nat.le_refl _, by unfold maxLen; omega, fun e => (by cases e), .inr ⟨W.heap.size, 0, rfl, fun j hj => ?_⟩⟩
 obtain ⟨x, hx, hr⟩ := h j hj
 refine ⟨x, ?_, hr.below ((Below.refl _ _).alloc (Nat.le_refl _) _) (Nat.le_refl _)⟩
 rw [Nat.zero_add, cell_of_row _ W.heap.size j vs 53 (0, 0) (heap_alloc_new W _)]
 exact hx

theorem concat4 (W : World) (N : Nat) (hN : N = W.heap.size) (v0 v1 v2 v3 : Value) (l0 l1 l2 l3 : List UInt8) (h0 : Rd W v0 l0) (h1 : Rd W v1 l1) (h2 : Rd W v2 l2) (h3 : Rd W v3 l3) (hlim : l0.length + l1.length + l2.length + l3.length <= 1000000) :
   Calls Tryz.prog 135 #[.slice (some ⟨N, 0, none⟩) 4 4] (W.alloc (.cells #[v0, v1, v2, v3] 53)) fun e w' => ∃ v', e = .returned v' ∧ Own w' W.heap.size v' (l0 ++ (l1 ++ (l2 ++ l3))) ∧ Below W.heap.size W w' := by
 have hr := RdL.built W N hN #[v0, v1, v2, v3] [l0, l1, l2, l3] (by simp) (fun j hj => by
   match j, hj with
   | 0, _ => exact ⟨v0, rfl, h0⟩
   | 1, _ => exact ⟨v1, rfl, h1⟩
   | 2, _ => exact ⟨v2, rfl, h2⟩
   | 3, _ => exact ⟨v3, rfl, h3⟩)
 have ef : [l0, l1, l2, l3].flatten = l0 ++ (l1 ++ (l2 ++ l3)) := by simp
 refine (concat_any _ _ _ hr (by rw [ef]; simp only [List.length_append]; omega) (by simp)).mono ?_
 rintro e w' ⟨v', rfl, ho, hb⟩
 rw [ef] at ho
 exact ⟨v', rfl, ho.mono (by simp), ((Below.refl _ _).alloc (Nat.le_refl _) _).trans (hb.mono (by simp))⟩

set_option maxHeartbeats 1000000 in
theorem cloneB_any (v : Value) (l : List UInt8) (w : World) (hr : Rd w v l) (hlim : l.length <= 1000000) :
   Calls Tryz.prog 217 #[v] w fun e w' => ∃ v', e = .returned v' ∧ Own w' w.heap.size v' l ∧ Below w.heap.size w w' := by
 have HR := hide hr
 obtain ⟨ao, cap, rfl, hlc, -, hn, -⟩ := hr
 cases ao with
 | none =>
   obtain rfl : cap = 0 := hn rfl
   obtain rfl : l = [] := List.eq_nil_of_length_eq_zero (by omega)
   clear hn hlc
   have hnil : ∀ w, (binOp .eql 53 (.slice none 0 0) (.slice none 0 0)).run Tryz.prog w = .ok (.bool true) w := fun w => run_eql_slice_nil w _ _ none 0 0 Tryz.underlying53
   go_enter Tryz.func217, Tryz.ntmps217
   go_wp2
   go_ret
   exact ⟨_, rfl, Own.nil _ _, Below.refl _ _⟩
 | some a =>
   clear hn
   have hnil : ∀ w, (binOp .eql 53 (.slice (some a) l.length cap) (.slice none 0 0)).run Tryz.prog w = .ok (.bool false) w := fun w => run_eql_slice_nil w _ _ (some a) _ _ Tryz.underlying53
   have HB0 : Hid (∀ X, Below w.heap.size w (w.alloc X)) := fun X => (Below.refl _ _).alloc (Nat.le_refl _) X
   have HO0 : Hid (Own (w.alloc (.cells #[] 5)) w.heap.size (.slice (some ⟨w.heap.size, 0, none⟩) 0 0) []) := hide (Own.empty rfl rfl (Nat.le_refl _) 0 (Nat.zero_le _) rfl)
   go_enter Tryz.func217, Tryz.ntmps217
   go_wp2_with (at_builtin; refine wpList_append_rd _ rfl _ _ rfl w.heap.size _ [] rfl HO0.out _ l rfl (HR.out.below (HB0.out _) (Nat.le_refl _)) (by simp; omega) (by simp) ?_)
   intro v1 W1 ho1 hb1
   have HO1 := hide ho1
   have HB1 := hide ((HB0.out _).trans hb1)
   clear ho1 hb1
   go_wp2
   go_ret
   exact ⟨_, rfl, HO1.out, HB1.out⟩

def tabCells : Array Value := ((List.range 256).map fun c => Value.int .u32 ((entry c : Nat) : Int)).toArray

def zeroTab : Array Value := (List.replicate 256 (Value.int .u32 0)).toArray

theorem tab_zero : (Tryz.prog.info? 268).map (fun i => (i.zero, i.size)) = some (some (.agg zeroTab), 256) := by kernel_rfl

theorem tabCells_size : tabCells.size = 256 := by simp [tabCells]

theorem zeroTab_size : zeroTab.size = 256 := by
 unfold zeroTab
 rw [List.size_toArray, List.length_replicate]

theorem tabCells_one : tabCells.all (·.oneCell') = true := by
 rw [Array.all_eq_true]
 intro i hi
 simp [tabCells, Value.oneCell']

theorem tabCells_at (k : Nat) (h : k < 256) : tabCells[k]? = some (.int .u32 ((entry k : Nat) : Int)) := by
 simp [tabCells, h]

theorem store_tab (w : World) : (Instr.storeAt 268 (.pointer (some ⟨w.heap.size, 0, none⟩)) (.agg tabCells)).run Tryz.prog (w.alloc (.cells zeroTab 268)) = .ok () (w.alloc (.cells tabCells 268)) :=
 run_storeAt_new w 268 zeroTab tabCells (by rw [tabCells_size]; exact (zero_of_info tab_zero).2) (by rw [tabCells_size, zeroTab_size]) tabCells_one

def TabAt (w : World) (b : Nat) : Prop := ∀ k, k < 256 -> w.cell? ⟨b, k, none⟩ = some (.int .u32 ((entry k : Nat) : Int))

theorem TabAt.made (w : World) : TabAt (w.alloc (.cells tabCells 268)) w.heap.size := by
 intro k hk
 rw [cell_of_row _ w.heap.size k tabCells 268 (0, 0) (heap_alloc_last w _)]
 exact tabCells_at k hk

theorem wpList_keep_tab (w : World) {ops : Array Oper} {rest : List Oper} {o : Oper} {a : Act} {Q : Exit -> Act -> World -> Prop} (hgd : o.guard = none) (x y : Operand) (ho : o.op = .store 268 x y)
   (hx : a.eval x = .pointer (some ⟨w.heap.size, 0, none⟩)) (hy : a.eval y = .agg tabCells)
   (h : ∀ w', Below w.heap.size w w' -> TabAt w' w.heap.size -> wpList Tryz.prog ops Q rest (a.put o.dst undef) w') : wpList Tryz.prog ops Q (o :: rest) a (w.alloc (.cells zeroTab 268)) :=
 wpList_plain hgd fun _ hK => by
   have hrun := store_tab w
   unfold Oper.wp execOp
   simp only [ho, hx, hy, hrun, Sem.run_bind, Sem.run_pure, Result.andThen_ok]
   exact hK _ _ (h _ ((Below.refl _ _).alloc (Nat.le_refl _) _) (TabAt.made w))

def tabAt (k : Nat) : Array Value := ((List.range 256).map fun c => if c < k then Value.int .u32 ((entry c : Nat) : Int) else Value.int .u32 0).toArray

theorem tabAt_size (k : Nat) : (tabAt k).size = 256 := by simp [tabAt]

theorem tabAt_get (k i : Nat) (h : i < 256) : (tabAt k)[i]? = some (if i < k then Value.int .u32 ((entry i : Nat) : Int) else Value.int .u32 0) := by
 simp [tabAt, h]

theorem tabAt_zero : tabAt 0 = zeroTab := by
 apply Array.ext_getElem?
 intro i
 by_cases h : i < 256
 · rw [tabAt_get 0 i h]
   unfold zeroTab
   rw [List.getElem?_toArray, List.getElem?_replicate_of_lt h]
   simp
 · rw [Array.getElem?_eq_none (by rw [tabAt_size]; omega), Array.getElem?_eq_none (by rw [zeroTab_size]; omega)]

theorem tabAt_full : tabAt 256 = tabCells := by
 apply Array.ext_getElem?
 intro i
 by_cases h : i < 256
 · rw [tabAt_get 256 i h, if_pos h, tabCells_at i h]
 · rw [Array.getElem?_eq_none (by rw [tabAt_size]; omega), Array.getElem?_eq_none (by rw [tabCells_size]; omega)]

theorem tabAt_set (k : Nat) (hk : k < 256) : (tabAt k).setIfInBounds k (Value.int .u32 ((entry k : Nat) : Int)) = tabAt (k + 1) := by
 apply Array.ext_getElem?
 intro i
 rw [Array.getElem?_setIfInBounds]
 by_cases h : i < 256
 · rw [tabAt_get (k + 1) i h, tabAt_get k i h, tabAt_size]
   by_cases hi : k = i
   · subst hi
     simp [hk]
   · rw [if_neg hi]
     have e : (i < k + 1) = (i < k) := by
       apply propext
       omega
     simp only [e]
 · have hi : ¬ k = i := by omega
   rw [if_neg hi, Array.getElem?_eq_none (by rw [tabAt_size]; omega), Array.getElem?_eq_none (by rw [tabAt_size]; omega)]

theorem tab_info {C : Array Value} (h : C.size = 256) : (Tryz.prog.info? 268).map (·.size) = some C.size := by
 rw [h]
 exact (zero_of_info tab_zero).2

theorem wpList_load_tab (w : World) {ops : Array Oper} {rest : List Oper} {o : Oper} {a : Act} {Q : Exit -> Act -> World -> Prop} (hgd : o.guard = none) (x : Operand) (ho : o.op = .load 268 x)
   (g : Nat) (C : Array Value) (fr : Nat × Nat) (hx : a.eval x = .pointer (some ⟨g, 0, none⟩)) (hg : w.heap[g]? = some (.cells C 268 fr)) (hC : C.size = 256)
   (h : wpList Tryz.prog ops Q rest (a.put o.dst (.agg C)) w) : wpList Tryz.prog ops Q (o :: rest) a w :=
 wpList_plain hgd fun _ hK => by
   have hrun := run_loadVar_row (P := Tryz.prog) w g 268 268 C fr _ hg Tryz.underlying268 rfl (tab_info hC)
   unfold Oper.wp execOp
   simp only [ho, hx, Instr.loadAt, Instr.sureAddr, Sem.run_bind, Sem.run_pure, Result.andThen_ok, hrun]
   exact hK _ _ h

theorem wpList_store_tab (w : World) {ops : Array Oper} {rest : List Oper} {o : Oper} {a : Act} {Q : Exit -> Act -> World -> Prop} (hgd : o.guard = none) (x y : Operand) (ho : o.op = .store 268 x y)
   (g : Nat) (C D : Array Value) (hx : a.eval x = .pointer (some ⟨g, 0, none⟩)) (hy : a.eval y = .agg D) (hg : w.heap[g]? = some (.cells C 268 (0, 0))) (hC : C.size = 256) (hD : D.size = 256) (h1 : D.all (·.oneCell') = true)
   (h : wpList Tryz.prog ops Q rest (a.put o.dst undef) (w.setRow g D)) : wpList Tryz.prog ops Q (o :: rest) a w :=
 wpList_plain hgd fun _ hK => by
   have hrun := run_storeVar_row (P := Tryz.prog) w g 268 268 C D hg (tab_info hD) (by rw [hC, hD]) h1
   unfold Oper.wp execOp
   simp only [ho, hx, hy, Instr.storeAt, Instr.sureAddr, Sem.run_bind, Sem.run_pure, Result.andThen_ok, hrun]
   exact hK _ _ h

theorem results_cell {fn : Func} {p : Tmp} {ty : TypeId} (h : fn.results = #[.cell p ty]) (tmps : Array Value) (P : Program) (w : World) :
   (results fn tmps).run P w = ((asAddr (tmps.getD p undef)).run P w).andThen fun a w₁ => (loadVar ty a).run P w₁ := by
 simp only [results, h]
 simp [Sem.run_bind, Result.andThen]

set_option maxHeartbeats 1000000 in
theorem entry_any (k : Nat) (hk : k < 256) (w : World) : Calls Tryz.prog 228 #[.int .u32 (k : Int)] w fun e w' => e = .returned (.int .u32 (entry k : Nat)) ∧ w' = w := by
 have HK := hide hk
 clear hk
 go_enter Tryz.func228, Tryz.ntmps228
 go_wp2
 go_loop [0, 4] (fun x j => ∃ m : Nat, m <= 8 ∧ j = .int .i64 (m : Int) ∧ x = .int .u32 (ticks m k : Nat)) (fun _ j => 8 - (intOf j).toNat)
 case atStart => exact ⟨0, Nat.zero_le _, rfl, rfl⟩
 case round =>
   obtain ⟨m, hm, rfl, rfl⟩ := hrel
   by_cases hm8 : m < 8
   · have HS := hide (ticks_succ m k)
     have hbt : ticks m k < 4294967296 := ticks32 m (by have := HK.out; omega)
     generalize ticks m k = y at *
     obtain ⟨Y, hY⟩ : ∃ Y : Int, Y = (y : Int) := ⟨_, rfl⟩
     rw [<- hY]
     have hY0 : 0 <= Y := by omega
     have hY1 : Y < 4294967296 := by omega
     have HY := hide hY
     have HBT := hide hbt
     clear hY hbt
     by_cases ho : Y % 2 = 1
     · have hob : (Y % 2 == 1) = true := beq_iff_eq.2 ho
       have HO := hide ho
       clear ho
       go_wp2
       go_round
       case rel =>
         have e := HY.out
         have eo := HO.out
         refine ⟨m + 1, by omega, by go_num, ?_⟩
         have e2 : Y / 2 = ((y / 2 : Nat) : Int) := by omega
         have e3 : (2197175160 : Int) = ((2197175160 : Nat) : Int) := rfl
         have ht : tick y = y / 2 ^^^ 2197175160 := if_pos (by omega)
         rw [HS.out, ht, e2, e3, xor_u32 _ _ (by have := HBT.out; omega) (by decide)]
       case measure => simp [intOf]; omega
     · have hob : (Y % 2 == 1) = false := beq_eq_false_iff_ne.2 ho
       have HO := hide ho
       clear ho
       go_wp2
       go_round
       case rel =>
         have e := HY.out
         have eo := HO.out
         refine ⟨m + 1, by omega, by go_num, ?_⟩
         have e2 : Y / 2 = ((y / 2 : Nat) : Int) := by omega
         have ht : tick y = y / 2 := if_neg (by omega)
         rw [HS.out, ht, e2]
       case measure => simp [intOf]; omega
   · have HE : Hid (ticks m k = entry k) := by
       have e : m = 8 := by omega
       rw [e]
       exact rfl
     generalize ticks m k = y at *
     go_wp2
     go_ret
     refine ⟨ret_int ?_, rfl⟩
     rw [HE.out]

set_option maxHeartbeats 1000000 in
theorem table_any (w : World) : Calls Tryz.prog 218 #[] w fun e w' => e = .returned (.agg tabCells) ∧ Below w.heap.size w w' := by
 have hz := (zero_of_info tab_zero).1
 have HC : Hid (∀ (k : Nat) (w : World), k < 256 -> Calls Tryz.prog 228 #[.int .u32 (k : Int)] w fun e w' => e = .returned (.int .u32 (entry k : Nat)) ∧ w' = w) := fun k w hk => entry_any k hk w
 go_enter Tryz.func218, Tryz.ntmps218
 go_wp2
 go_loopw [3] (fun i wr => ∃ k : Nat, k <= 256 ∧ i = .int .i64 (k : Int) ∧ Hid (wr.heap[w.heap.size + 1]? = some (.cells (tabAt k) 268 (0, 0))) ∧ Hid (wr.heap[w.heap.size]? = some (.cells zeroTab 268 (0, 0))) ∧ Hid (Below w.heap.size w wr)) (fun i _ => 256 - (intOf i).toNat)
 case atStart =>
   have e1 : ((w.alloc (.cells zeroTab 268)).alloc (.cells zeroTab 268)).heap[w.heap.size + 1]? = some (.cells (tabAt 0) 268 (0, 0)) := by
     rw [tabAt_zero]
     have h := heap_alloc_last (w.alloc (.cells zeroTab 268)) (.cells zeroTab 268)
     have hs : (w.alloc (.cells zeroTab 268)).heap.size = w.heap.size + 1 := by simp
     rw [hs] at h
     exact h
   have e0 : ((w.alloc (.cells zeroTab 268)).alloc (.cells zeroTab 268)).heap[w.heap.size]? = some (.cells zeroTab 268 (0, 0)) :=
     (Below.heap_alloc _ _ w.heap.size (by simp)).trans (heap_alloc_last w _)
   exact ⟨0, Nat.zero_le _, rfl, e1, e0, ((Below.refl _ _).alloc (Nat.le_refl _) _).alloc (by simp) _⟩
 case round =>
   obtain ⟨k, hk, rfl, h1, h0, hb⟩ := hrel
   by_cases hlt : k < 256
   · have hcell : wr.cell? ⟨w.heap.size + 1, k, none⟩ = some (.int .u32 0) := by
       rw [cell_of_row wr _ k _ _ _ h1.out, tabAt_get k k hlt]
       simp
     have hfr : wr.frozen? ⟨w.heap.size + 1, k, none⟩ = false := frozen_of_row wr _ k _ _ h1.out
     have HST : Hid ((wr.setCell ⟨w.heap.size + 1, k, none⟩ (.int .u32 ((entry k : Nat) : Int))).heap[w.heap.size + 1]? = some (.cells (tabAt (k + 1)) 268 (0, 0))) := by
       have h := heap_setCell_same wr (w.heap.size + 1) k _ _ (.int .u32 ((entry k : Nat) : Int)) h1.out
       rw [tabAt_set k hlt] at h
       exact h
     go_wp2_with fail
     refine (HC.out k wr hlt).mono ?_
     rintro e w2 ⟨rfl, rfl⟩
     go_wp2
     go_roundw
     case rel => exact ⟨k + 1, by omega, by go_num, HST, (Below.heap_setCell _ _ _ _ (by show w.heap.size ≠ w.heap.size + 1; omega)).trans h0.out, hb.out.setCell (by show w.heap.size <= w.heap.size + 1; omega) _⟩
     case measure => simp [intOf]; omega
   · have h1' : wr.heap[w.heap.size + 1]? = some (.cells tabCells 268 (0, 0)) := by
       have e : k = 256 := by omega
       rw [<- tabAt_full, <- e]
       exact h1.out
     have H1 := hide h1'
     have HRES : Hid ((loadVar 268 ⟨w.heap.size, 0, none⟩).run Tryz.prog (wr.setRow w.heap.size tabCells) = .ok (.agg tabCells) (wr.setRow w.heap.size tabCells)) :=
       run_loadVar_row (P := Tryz.prog) _ _ 268 268 tabCells (0, 0) _ (setRow_heap wr _ _ tabCells _ _ h0.out) Tryz.underlying268 rfl (tab_info tabCells_size)
     have HB : Hid (Below w.heap.size w (wr.setRow w.heap.size tabCells)) :=
       ⟨hb.out.os, hb.out.tape, hb.out.output, by have := hb.out.size; simp [World.setRow]; omega, fun j hj => (setRow_other wr _ j _ (by omega)).trans (hb.out.block j hj)⟩
     clear h1' h1
     go_wp2_with (first
       | refine wpList_load_tab _ rfl _ rfl (w.heap.size + 1) tabCells (0, 0) rfl H1.out tabCells_size ?_
       | refine wpList_store_tab _ rfl _ _ rfl w.heap.size zeroTab tabCells rfl rfl h0.out zeroTab_size tabCells_size tabCells_one ?_)
     refine bodyPost_ret (v := .agg tabCells) ?_ rfl ⟨rfl, HB.out⟩
     have h := HRES.out
     rw [results_cell Tryz.results218]
     have e : (asAddr (.pointer (some ⟨w.heap.size, 0, none⟩))).run Tryz.prog (wr.setRow w.heap.size tabCells) = .ok ⟨w.heap.size, 0, none⟩ (wr.setRow w.heap.size tabCells) := by simp [asAddr]
     simp only [Act.put, List.setIfInBounds_toArray, List.set_cons_succ, List.set_cons_zero]
     show ((asAddr (.pointer (some ⟨w.heap.size, 0, none⟩))).run Tryz.prog (wr.setRow w.heap.size tabCells)).andThen _ = _
     rw [e]
     simp only [Result.andThen]
     rw [h]

set_option maxHeartbeats 1000000 in
theorem more_any (s : Nat) (v : Value) (l : List UInt8) (w : World) (hr : Rd w v l) (hs : s < 4294967296) :
   Calls Tryz.prog 190 #[.int .u32 (s : Int), v] w fun e w' => e = .returned (.int .u32 (crcMore s l : Nat)) ∧ Below w.heap.size w w' := by
 have HR := hide hr
 obtain ⟨ao, cap, rfl, hlc, hcm, hn0, hao⟩ := hr
 clear hn0
 have HAO := hide hao
 clear hao
 have hml : (l.length : Int) <= 9223372036854775807 := by unfold maxLen at hcm; omega
 have HN := hide (not_u32 s hs)
 have HL : Hid (∀ k, crcReg (s ^^^ 4294967295) (l.take k) < 4294967296) := fun k => crcReg_lt _ (not_lt hs)
 have HE : Hid (crcMore s l = crcReg (s ^^^ 4294967295) l ^^^ 4294967295) := rfl
 have HT := hide (fun w => table_any w)
 have hz := (zero_of_info tab_zero).1
 generalize s ^^^ 4294967295 = x0 at *
 clear hs
 go_enter Tryz.func190, Tryz.ntmps190
 go_wp2_with fail
 refine (HT.out _).mono ?_
 rintro e w2 ⟨rfl, hb⟩
 have HB2 := hide hb
 clear hb HT
 go_wp2_with (refine wpList_keep_tab _ rfl _ _ rfl rfl rfl ?_)
 intro w3 hb3 ht3
 have HB3 := hide (HB2.out.trans (hb3.mono HB2.out.size))
 have HT3 := hide ht3
 clear hb3 ht3 hz
 go_wp2
 go_loop [6, 14] (fun x i => ∃ k : Nat, k <= l.length ∧ i = .int .i64 k ∧ x = .int .u32 (crcReg x0 (l.take k) : Nat)) (fun _ i => l.length - (intOf i).toNat)
 case atStart =>
   refine ⟨0, Nat.zero_le _, rfl, ?_⟩
   rw [HN.out]
   rfl
 case round =>
   obtain ⟨k, hk, rfl, rfl⟩ := hrel
   have hy := HL.out k
   by_cases hlt : k < l.length
   · have HS := hide (crcReg_snoc l x0 k hlt)
     rcases HAO.out with hao | ⟨b, off, rfl, _⟩
     · subst hao; simp at hlt
     have hck := (HR.out.below HB3.out (Nat.le_refl _)).at k hlt
     have hc256 : (l.getD k 0).toNat < 256 := UInt8.toNat_lt _
     generalize crcReg x0 (l.take k) = y at *
     generalize (l.getD k 0).toNat = c at *
     have hlb := byte_lt y c hc256
     have hbx : bits .xor .u8 ((y : Int) % 256) (c : Int) = ((y % 256 ^^^ c : Nat) : Int) := by
       have e : (y : Int) % 256 = ((y % 256 : Nat) : Int) := by omega
       rw [e]
       exact xor_u8 _ _ (by omega) hc256
     have HF : Hid (bits .xor .u32 ((entry (y % 256 ^^^ c) : Nat) : Int) ((y : Int) / 256) = ((crcByte y c : Nat) : Int)) := by
       have e : (y : Int) / 256 = ((y / 256 : Nat) : Int) := by omega
       rw [e, xor_u32 _ _ (entry_lt _ hlb) (by omega)]
       unfold crcByte
       rw [low_byte y c hc256]
       exact rfl
     have htc := HT3.out (y % 256 ^^^ c) hlb
     generalize hm : y % 256 ^^^ c = m at *
     have HM := hide hm
     clear hm
     have hmi : (m : Int) < 256 := by omega
     obtain ⟨E, hE⟩ : ∃ E : Int, E = ((entry m : Nat) : Int) := ⟨_, rfl⟩
     rw [<- hE] at htc HF
     clear hE
     go_wp2
     go_round
     case rel => exact ⟨k + 1, by omega, by go_num, by rw [HS.out, <- HF.out]⟩
     case measure => simp [intOf]; omega
   · go_wp2
     go_ret
     refine ⟨ret_int ?_, HB3.out⟩
     rw [HE.out, not_u32 _ hy, List.take_of_length_le (by omega)]

theorem sum_any (v : Value) (l : List UInt8) (w : World) (hr : Rd w v l) :
   Calls Tryz.prog 140 #[v] w fun e w' => e = .returned (.int .u32 (crcMore 0 l : Nat)) ∧ Below w.heap.size w w' := by
 have HC : Hid (Calls Tryz.prog 190 #[.int .u32 0, v] w fun e w' => e = .returned (.int .u32 (crcMore 0 l : Nat)) ∧ Below w.heap.size w w') := more_any 0 v l w hr (by decide)
 generalize crcMore 0 l = m at *
 clear hr
 go_enter Tryz.func140, Tryz.ntmps140
 go_wp2_with fail
 refine HC.out.mono ?_
 rintro e w' ⟨rfl, hb⟩
 have HB := hide hb
 clear hb HC
 go_wp2
 go_ret
 exact ⟨rfl, HB.out⟩

def ViewL (v : Value) (l : List UInt8) (xs : List Value) (L : List (List UInt8)) : Prop :=
 xs.length = L.length ∧ ∀ j, j < L.length -> ∃ x, xs[j]? = some x ∧ x.oneCell' = true ∧ ∀ W, Rd W v l -> Rd W x (L.getD j [])

theorem ViewL.nil (v : Value) (l : List UInt8) : ViewL v l [] [] := ⟨rfl, fun j hj => absurd hj (by simp)⟩

theorem ViewL.snoc {v : Value} {l : List UInt8} {xs : List Value} {L : List (List UInt8)} (h : ViewL v l xs L) {x : Value} {d : List UInt8} (h1 : x.oneCell' = true) (h2 : ∀ W, Rd W v l -> Rd W x d) : ViewL v l (xs ++ [x]) (L ++ [d]) := by
 refine ⟨by simp [h.1], fun j hj => ?_⟩
 rw [List.length_append, List.length_singleton] at hj
 by_cases hl : j < L.length
 · obtain ⟨y, e1, e2, e3⟩ := h.2 j hl
   refine ⟨y, by rw [List.getElem?_append_left (by rw [h.1]; exact hl)]; exact e1, e2, ?_⟩
   have e : (L ++ [d]).getD j [] = L.getD j [] := by simp [List.getD, List.getElem?_append_left hl]
   rw [e]
   exact e3
 · have e0 : j = L.length := by omega
   subst e0
   refine ⟨x, by rw [List.getElem?_append_right (by rw [h.1]; omega), h.1]; simp, h1, ?_⟩
   have e : (L ++ [d]).getD L.length [] = d := by simp [List.getD]
   rw [e]
   exact h2

theorem info_rows : (Tryz.prog.info? 53).map (fun i => (i.zero, i.size, i.bytes)) = some (some (.slice none 0 0), 1, 24) := by kernel_rfl

theorem run_append_vals (w : World) (ty : TypeId) (B : Nat) (v : Value) (n : Nat) (xs : List Value) (h : w.ownsRow B 53 1 v n xs) (a : Addr) (m cap : Nat) (ys : List Value) (hm : ys.length = m) (hc : ∀ j u, ys[j]? = some u -> w.cell? (a.add j) = some u) (hy : ∀ u ∈ ys, u.oneCell' = true) (hlim : n + m <= 1000000) (hbase : B <= w.heap.size) :
   ∃ v' w', (Builtin.append_ #[146, 146] ty #[v, .slice (some a) m cap]).run Tryz.prog w = .ok v' w' ∧ w'.ownsRow B 53 1 v' (n + m) (xs ++ ys) ∧ Below B w w' := by
 obtain ⟨i0, hi, hz0, hz1, hz2⟩ := info_parts info_rows
 obtain ⟨v', w', hrun, ho, hgr, _⟩ := run_append_own (P := Tryz.prog) w B 146 ty 53 i0 (.slice none 0 0) 1 24 Tryz.underlying146 hi hz0 hz1 hz2 rfl (by decide) v n xs h
   a m cap ys (by rw [hm, Nat.mul_one]) hc hy (by unfold maxLen; omega) (by omega) hbase
 exact ⟨v', w', hrun, ho, (Below.refl _ _).grown hgr hbase (fun k hk => (World.ownsRow.lt h k hk).1)⟩

theorem wpList_append_vals (w : World) {ops : Array Oper} {rest : List Oper} {o : Oper} {a : Act} {Q : Exit -> Act -> World -> Prop} (hgd : o.guard = none) (s x : Operand)
   (ho : o.op = .call { callee := .builtin .append, args := #[s, x], argTypes := #[146, 146] })
   (B : Nat) (v : Value) (n : Nat) (xs : List Value) (hs : a.eval s = v) (hown : w.ownsRow B 53 1 v n xs) (d : Addr) (m cap : Nat) (ys : List Value) (hx : a.eval x = .slice (some d) m cap) (hm : ys.length = m) (hc : ∀ j u, ys[j]? = some u -> w.cell? (d.add j) = some u) (hy : ∀ u ∈ ys, u.oneCell' = true)
   (hlim : n + m <= 1000000) (hbase : B <= w.heap.size)
   (h : ∀ v' w', w'.ownsRow B 53 1 v' (n + m) (xs ++ ys) -> Below B w w' -> wpList Tryz.prog ops Q rest (a.put o.dst v') w') : wpList Tryz.prog ops Q (o :: rest) a w :=
 wpList_plain hgd fun _ hK => by
   obtain ⟨v', w', hrun, h2, h3⟩ := run_append_vals w o.type B v n xs hown d m cap ys hm hc hy hlim hbase
   unfold Oper.wp execOp
   simp only [ho, resolve, invoke, builtin, Sem.run_bind, Sem.run_pure, Result.andThen_ok, List.map_toArray, List.map_cons, List.map_nil, hs, hx, hrun]
   exact hK _ _ (h v' w' h2 h3)

theorem cut_view (ao : Option Addr) (l : List UInt8) (cap : Nat) (hlc : l.length <= cap) (i j : Nat) (hij : i <= j) (hj : j <= l.length) :
   ∃ xa xn xc, (∀ W, (Instr.sliceAt 53 (.slice ao l.length cap) (some (.int .i64 (i : Int))) (some (.int .i64 (j : Int))) (some (.int .i64 (j : Int)))).run Tryz.prog W = .ok (.slice xa xn xc) W) ∧ ∀ W, Rd W (.slice ao l.length cap) l -> Rd W (.slice xa xn xc) ((l.drop i).take (j - i)) := by
 have hsl : ∃ xa xn xc, sliced ao i j j 1 = .slice xa xn xc := by
   unfold sliced
   exact ⟨_, _, _, rfl⟩
 obtain ⟨xa, xn, xc, hsl⟩ := hsl
 refine ⟨xa, xn, xc, fun W => ?_, fun W h => ?_⟩
 · rw [run_sliceAt_slice W 53 _ _ _ _ under_bytes, run_slice_lhm W 53 ao l.length cap under_bytes .i64 .i64 .i64 (i : Int) (j : Int) (j : Int) (by omega) (by omega) (by omega) (by omega), elem_bytes, size_u8]
   simp only [Int.toNat_natCast]
   rw [<- hsl]
   rfl
 · rw [<- hsl]
   exact h.mid i j j hij hj (Nat.le_refl _) (by omega)

theorem append_size (w : World) (x : Obj) : w.heap.size <= (w.alloc x).heap.size := ((Below.refl w.heap.size w).alloc (Nat.le_refl _) x).size

theorem one_cells (w : World) (v : Value) : ∀ j u, [v][j]? = some u -> (w.alloc (.cells #[v] 53)).cell? ((⟨w.heap.size, 0, none⟩ : Addr).add j) = some u := fun j u hj => by
 rw [Addr.add_lit, Nat.zero_add, cell_of_row _ w.heap.size j _ 53 (0, 0) (heap_alloc_new w _)]
 rw [<- List.getElem?_toArray] at hj
 exact hj

def Chunked (w : World) (v : Value) (l : List UInt8) (L : List (List UInt8)) (e : Ending) (w' : World) : Prop :=
 ∃ v' xs, e = .returned v' ∧ w'.ownsRow w.heap.size 53 1 v' L.length xs ∧ ViewL v l xs L ∧ Below w.heap.size w w'

set_option maxRecDepth 100000 in
set_option maxHeartbeats 2000000 in
theorem chunks_any (v : Value) (l : List UInt8) (w : World) (hr : Rd w v l) (hlim : l.length <= 100000) :
   Calls Tryz.prog 105 #[v] w fun e w' => Chunked w v l (pieces l) e w' := by
 obtain ⟨ao, cap, rfl, hlc, hcm, -⟩ := hr
 have HCV := hide (fun i j => cut_view ao l cap hlc i j)
 have HPD : Hid (∀ A, A < l.length -> pieces (l.drop A) = (l.drop A).take 64 :: pieces (l.drop (A + 64))) := hide (fun A h => pieces_drop h)
 have HP0 : Hid (pieces l = [] ++ pieces (l.drop 0)) := hide (by simp)
 have HPN : Hid (∀ A, l.length <= A -> pieces (l.drop A) = []) := hide (fun A h => by rw [List.drop_eq_nil_of_le h, pieces_nil])
 have HTK : Hid (∀ A, l.length <= A + 64 -> (l.drop A).take (l.length - A) = (l.drop A).take 64) := hide (fun A h => by
   rw [List.take_of_length_le (by rw [List.length_drop]; omega), List.take_of_length_le (by rw [List.length_drop]; omega)])
 obtain ⟨PL, hPL⟩ : ∃ PL, PL = pieces l := ⟨_, rfl⟩
 rw [<- hPL] at HP0 ⊢
 clear hPL hcm
 go_enter Tryz.func105, Tryz.ntmps105
 go_wp2
 go_loopw [3, 4] (fun vo va wr => ∃ (A : Nat) (P : List (List UInt8)) (xs : List Value), va = .int .i64 (A : Int) ∧ P.length <= A ∧ A <= l.length + 64 ∧ Hid (wr.ownsRow w.heap.size 53 1 vo P.length xs) ∧ Hid (ViewL (.slice ao l.length cap) l xs P) ∧ Hid (PL = P ++ pieces (l.drop A)) ∧ Hid (Below w.heap.size w wr)) (fun _ va _ => l.length + 64 - (intOf va).toNat)
 case atStart => exact ⟨0, [], [], rfl, Nat.le_refl _, by omega, hide (World.ownsRow_nil w w.heap.size 53 1), hide (ViewL.nil _ _), HP0, Below.refl _ _⟩
 case round =>
   clear HP0
   obtain ⟨A, P, xs, rfl, hPA, hA, hO, hV, hE, hB⟩ := hrel
   by_cases hlt : A < l.length
   case neg =>
     have hni : ¬ (A : Int) < (l.length : Int) := by omega
     have HF : Hid (PL = P) := hide (by rw [hE.out, HPN.out A (by omega), List.append_nil])
     go_wp2
     go_ret
     rw [HF.out]
     exact ⟨_, xs, rfl, hO.out, hV.out, hB.out⟩
   have hli : (A : Int) < (l.length : Int) := by omega
   have HPA := hide (HPD.out A hlt)
   by_cases h : A + 64 <= l.length
   · obtain ⟨xa, xn, xc, hcut, hv⟩ := HCV.out A (A + 64) (by omega) h
     have e1 : ((A + 64 : Nat) : Int) = (A : Int) + 64 := by omega
     have e2 : A + 64 - A = 64 := by omega
     rw [e1] at hcut
     rw [e2] at hv
     have HV := hide hv
     have hmn : (A : Int) + 64 <= (l.length : Int) := by omega
     have hmi : min ((A : Int) + 64) (l.length : Int) = (A : Int) + 64 := by omega
     have hmn2 : ¬ (l.length : Int) < (A : Int) + 64 := by omega
     have HSA : Hid (w.heap.size <= (wr.alloc (.cells #[.slice xa xn xc] 53)).heap.size) := hide (Nat.le_trans hB.out.size (append_size wr _))
     have HOA : Hid ((wr.alloc (.cells #[.slice xa xn xc] 53)).ownsRow w.heap.size 53 1 _ P.length xs) := hide (World.ownsRow.alloc hO.out _)
     have HCA := hide (one_cells wr (.slice xa xn xc))
     have HYA : Hid (∀ u ∈ [Value.slice xa xn xc], u.oneCell' = true) := hide (fun u hu => by rw [List.mem_singleton.1 hu]; rfl)
     have hPl : P.length + 1 <= 1000000 := by omega
     clear hv e1 e2 HPD HCV HPN HTK h
     go_wp2_with (at_builtin; refine wpList_append_vals _ rfl _ _ rfl w.heap.size _ P.length xs rfl HOA.out ⟨wr.heap.size, 0, none⟩ 1 1 [.slice xa xn xc] rfl rfl HCA.out HYA.out hPl HSA.out ?_)
     intro v1 W1 ho1 hb1
     have HO1 := hide ho1
     have HB1 := hide ((hB.out.alloc hB.out.size _).trans hb1)
     clear ho1 hb1
     go_wp2
     go_roundw
     case rel => exact ⟨A + 64, P ++ [(l.drop A).take 64], xs ++ [.slice xa xn xc], by go_num, by simp; omega, by omega, hide (by rw [List.length_append, List.length_singleton]; exact HO1.out), hide (hV.out.snoc rfl HV.out), hide (by rw [hE.out, HPA.out, List.append_assoc]; rfl), HB1⟩
     case measure => simp [intOf]; omega
   · obtain ⟨xa, xn, xc, hcut, hv⟩ := HCV.out A l.length (by omega) (Nat.le_refl _)
     rw [HTK.out A (by omega)] at hv
     have HV := hide hv
     have hmn : (l.length : Int) < (A : Int) + 64 := by omega
     have hmi : min ((A : Int) + 64) (l.length : Int) = (l.length : Int) := by omega
     have hmn2 : ¬ (A : Int) + 64 <= (l.length : Int) := by omega
     have HSA : Hid (w.heap.size <= (wr.alloc (.cells #[.slice xa xn xc] 53)).heap.size) := hide (Nat.le_trans hB.out.size (append_size wr _))
     have HOA : Hid ((wr.alloc (.cells #[.slice xa xn xc] 53)).ownsRow w.heap.size 53 1 _ P.length xs) := hide (World.ownsRow.alloc hO.out _)
     have HCA := hide (one_cells wr (.slice xa xn xc))
     have HYA : Hid (∀ u ∈ [Value.slice xa xn xc], u.oneCell' = true) := hide (fun u hu => by rw [List.mem_singleton.1 hu]; rfl)
     have hPl : P.length + 1 <= 1000000 := by omega
     clear hv HPD HCV HPN HTK h
     go_wp2_with (at_builtin; refine wpList_append_vals _ rfl _ _ rfl w.heap.size _ P.length xs rfl HOA.out ⟨wr.heap.size, 0, none⟩ 1 1 [.slice xa xn xc] rfl rfl HCA.out HYA.out hPl HSA.out ?_)
     intro v1 W1 ho1 hb1
     have HO1 := hide ho1
     have HB1 := hide ((hB.out.alloc hB.out.size _).trans hb1)
     clear ho1 hb1
     go_wp2
     go_roundw
     case rel => exact ⟨A + 64, P ++ [(l.drop A).take 64], xs ++ [.slice xa xn xc], by go_num, by simp; omega, by omega, hide (by rw [List.length_append, List.length_singleton]; exact HO1.out), hide (hV.out.snoc rfl HV.out), hide (by rw [hE.out, HPA.out, List.append_assoc]; rfl), HB1⟩
     case measure => simp [intOf]; omega

set_option maxHeartbeats 1000000 in
theorem mayEntry_any (e : Ent) (w : World) :
   Calls Tryz.prog 192 #[entV e] w fun x w' => x = .returned (.bool (decide (EntOk e))) ∧ Below w.heap.size w w' := by
 have HF := hide (fun W => fitsR_any ⟨0, e.proc, e.seq, ⟨0, 0, 0⟩, e.resp⟩ W)
 have hd : decide (FitsR ⟨0, e.proc, e.seq, ⟨0, 0, 0⟩, e.resp⟩) = decide (EntOk e) := decide_eq_decide.2 (entOk_rec e)
 rw [hd] at HF
 clear hd
 generalize decide (EntOk e) = D at *
 obtain ⟨p, s, r⟩ := e
 unfold entV recV at *
 dsimp only at *
 have HB0 : Hid (∀ X, Below w.heap.size w (w.alloc X)) := fun X => (Below.refl _ _).alloc (Nat.le_refl _) X
 go_enter Tryz.func192, Tryz.ntmps192
 go_wp2_with fail
 refine (HF.out _).mono ?_
 rintro x W1 ⟨rfl, hb1⟩
 have HB1 := hide ((HB0.out _).trans (hb1.mono (HB0.out _).size))
 clear hb1
 go_wp2
 go_ret
 exact ⟨rfl, HB1.out⟩

set_option maxHeartbeats 2000000 in
theorem mayTable_any (v : Value) (t : List Ent) (w : World) (hr : RdE w v t) :
   Calls Tryz.prog 143 #[v] w fun x w' => x = .returned (.bool (decide (TabOk t))) ∧ Below w.heap.size w w' := by
 obtain ⟨va, vc, rfl, hlc, hcm, -, hw, hao⟩ := hr
 have HAO := hide hao
 have hml : (t.length : Int) <= 9223372036854775807 := by unfold maxLen at hcm; omega
 obtain ⟨D, hD⟩ : ∃ D, D = decide (TabOk t) := ⟨_, rfl⟩
 rw [<- hD]
 have HD1 : Hid (TabTo t t.length -> D = true) := hide (fun h => by rw [hD]; exact decide_eq_true h)
 have HD0 : Hid (∀ k, k < t.length -> ¬ TabTo t (k + 1) -> D = false) := hide (fun k hk h => by rw [hD]; exact decide_eq_false (fun h2 => h (TabTo.mono h2 hk)))
 have HM := hide (fun e W => mayEntry_any e W)
 have HL0 : Hid (leastP t 0 = 0) := hide rfl
 have HL1 : Hid (∀ k, leastP t (k + 1) = (t.getD k zeroE).proc + 1) := hide (fun k => rfl)
 have HN : Hid (∀ k, TabTo t (k + 1) ↔ TabTo t k ∧ EntOk (t.getD k zeroE) ∧ leastP t k <= (t.getD k zeroE).proc) := hide (fun k => tabTo_least)
 clear hD hcm hlc hao hw
 go_enter Tryz.func143, Tryz.ntmps143
 go_wp2
 go_loopw [3, 8] (fun vl vi wr => ∃ (k : Nat) (ls : Int), vi = .int .i64 (k : Int) ∧ vl = .int .i64 ls ∧ k <= t.length ∧ Hid (ls = leastP t k) ∧ Hid (TabTo t k) ∧ Hid (Below w.heap.size w wr)) (fun _ vi _ => t.length - (intOf vi).toNat)
 case atStart => exact ⟨0, 0, rfl, rfl, Nat.zero_le _, hide HL0.out.symm, hide (TabTo.zero t), Below.refl _ _⟩
 case round =>
   obtain ⟨k, ls, rfl, rfl, hk, hLS, hT, hB⟩ := hrel
   by_cases hlt : k < t.length
   case neg =>
     obtain rfl : k = t.length := by omega
     have HT := hide (HD1.out hT.out)
     go_wp2
     go_ret
     rw [HT.out]
     exact ⟨rfl, hB.out⟩
   have hki : (k : Int) < (t.length : Int) := by omega
   rcases HAO.out with h0 | ⟨c, off, rfl, hc⟩
   · rw [h0] at hlt; simp at hlt
   obtain ⟨c0, c1, c2⟩ := (hc k hlt).keep (hB.out.block c (hc k hlt).lt)
   have HNK := hide (HN.out k)
   have HDK := hide (HD0.out k hlt)
   have HL1K := hide (HL1.out k)
   have HMK := hide (fun W => HM.out (t.getD k zeroE) W)
   rw [<- hLS.out] at HNK
   obtain ⟨e, he⟩ : ∃ e, e = t.getD k zeroE := ⟨_, rfl⟩
   rw [<- he] at c0 c1 c2 HNK HL1K HMK
   clear he hc HM HN HD0 HD1 HL1 HL0 HAO
   obtain ⟨dk, hdk⟩ : ∃ dk, dk = decide (EntOk e) := ⟨_, rfl⟩
   rw [<- hdk] at HMK
   have HDD := hide hdk
   have HB2 : Hid (∀ X, Below w.heap.size w (wr.alloc X)) := hide (fun X => hB.out.alloc hB.out.size X)
   have HX : Hid (∀ cs, Be (wr.alloc (.cells cs 88)) wr.heap.size cs) := hide (fun cs => heap_alloc_new wr _)
   clear hdk
   unfold entV at HMK
   have HPB : Hid (dk = true -> 0 <= e.proc ∧ e.proc <= 64) := hide (fun h => by
     have : EntOk e := of_decide_eq_true (HDD.out.symm.trans h)
     exact ⟨this.1, this.2.1⟩)
   by_cases hls : e.proc < ls
   · have HF := hide (HDK.out (fun h => by have := (HNK.out.1 h).2.2; omega))
     obtain ⟨p, s, r⟩ := e
     dsimp only at *
     clear HNK HDK HMK HDD
     go_wp2
     go_ret
     rw [HF.out]
     exact ⟨rfl, HB2.out _⟩
   · have hnl : ls <= e.proc := by omega
     have HNK2 : Hid (dk = true -> TabTo t (k + 1)) := hide (fun h => HNK.out.2 ⟨hT.out, of_decide_eq_true (HDD.out.symm.trans h), hnl⟩)
     have HNF : Hid (dk = false -> D = false) := hide (fun h => HDK.out (fun h2 => by
       have h3 := (HNK.out.1 h2).2.1
       have h4 : dk = true := HDD.out.trans (decide_eq_true h3)
       rw [h] at h4
       cases h4))
     obtain ⟨p, s, r⟩ := e
     dsimp only at *
     clear HNK HDK HDD
     go_wp2_with fail
     refine (HMK.out _).mono ?_
     rintro x W1 ⟨rfl, hb1⟩
     have HB3 := hide ((HB2.out _).trans (hb1.mono (HB2.out _).size))
     have HX3 := hide ((HX.out _).below hb1 (Nat.le_refl _))
     obtain ⟨q0, f0⟩ := HX3.out.cell 0
     clear hb1 HMK
     cases dk with
     | false =>
       have HF := hide (HNF.out rfl)
       go_wp2
       go_ret
       rw [HF.out]
       exact ⟨rfl, HB3.out⟩
     | true =>
       obtain ⟨hp0, hp1⟩ := HPB.out rfl
       have hT2 := hide (HNK2.out rfl)
       go_wp2
       go_roundw
       case rel => exact ⟨k + 1, p + 1, by go_num, by go_num, by omega, hide HL1K.out.symm, hT2, HB3⟩
       case measure => simp [intOf]; omega

set_option maxHeartbeats 2000000 in
theorem mayN_any (v : Value) (s : Snap) (w : World) (hs : SnV w v s) :
   Calls Tryz.prog 101 #[v] w fun e w' => e = .returned (.bool (decide (MayN s))) ∧ Below w.heap.size w w' := by
 obtain ⟨vl, vt, rfl, hl, hk, he, ht, hi⟩ := hs
 have HB0 : Hid (∀ X, Below w.heap.size w (w.alloc X)) := fun X => (Below.refl _ _).alloc (Nat.le_refl _) X
 have HX : Hid (∀ cs, Bn (w.alloc (.cells cs 41)) w.heap.size cs) := hide (fun cs => heap_alloc_new w _)
 have HM := hide (fun W (h : Below w.heap.size w W) => may_any (.agg #[.int .i64 s.st.kind, vl, .bool s.st.shut, .int .i64 s.st.eng]) s.st W ⟨vl, rfl, hl.below h (Nat.le_refl _), hk, he⟩)
 have HT := hide (fun W (h : Below w.heap.size w W) => mayTable_any vt s.tab W (ht.below h (Nat.le_refl _)))
 obtain ⟨la, lc, hvl, -⟩ := hl
 obtain ⟨ta, tc, hvt⟩ := ht.shape
 subst hvl hvt
 clear ht
 obtain ⟨D, hD⟩ : ∃ D, D = decide (MayN s) := ⟨_, rfl⟩
 rw [<- hD]
 have HD : Hid (D = decide (MayN s)) := hide hD
 have HU : Hid (MayN s ↔ (0 <= s.idx ∧ s.idx < 4611686018427387904) ∧ MayS s.st ∧ TabOk s.tab) := hide Iff.rfl
 obtain ⟨m, hm⟩ : ∃ m, m = decide (MayS s.st) := ⟨_, rfl⟩
 obtain ⟨n, hn⟩ : ∃ n, n = decide (TabOk s.tab) := ⟨_, rfl⟩
 rw [<- hm] at HM
 rw [<- hn] at HT
 have HMM := hide hm
 have HNN := hide hn
 clear hD hm hn hk he hi
 obtain ⟨idx, ⟨kind, L, shut, eng⟩, tab⟩ := s
 dsimp only at *
 by_cases h0 : 0 <= idx
 case neg =>
   have HF : Hid (D = false) := hide (by rw [HD.out]; exact decide_eq_false (fun h => h0 (HU.out.1 h).1.1))
   go_enter Tryz.func101, Tryz.ntmps101
   go_wp2
   go_ret
   rw [HF.out]
   exact ⟨rfl, HB0.out _⟩
 by_cases h1 : idx < 4611686018427387904
 case neg =>
   have HF : Hid (D = false) := hide (by rw [HD.out]; exact decide_eq_false (fun h => h1 (HU.out.1 h).1.2))
   go_enter Tryz.func101, Tryz.ntmps101
   go_wp2
   go_ret
   rw [HF.out]
   exact ⟨rfl, HB0.out _⟩
 have HDD : Hid (D = (m && n)) := hide (by
   rw [HD.out, HMM.out, HNN.out, <- Bool.decide_and]
   exact decide_eq_decide.2 (HU.out.trans ⟨fun h => h.2, fun h => ⟨⟨h0, h1⟩, h⟩⟩))
 clear HD HU HMM HNN
 go_enter Tryz.func101, Tryz.ntmps101
 go_wp2_with fail
 refine (HM.out _ (HB0.out _)).mono ?_
 rintro x W1 ⟨rfl, hb1⟩
 have HB1 := hide ((HB0.out _).trans (hb1.mono (HB0.out _).size))
 have HX1 := hide ((HX.out _).below hb1 (Nat.le_refl _))
 obtain ⟨q5, f5⟩ := HX1.out.cell 5
 clear hb1 HM
 cases m with
 | false =>
   go_wp2
   go_ret
   rw [HDD.out]
   exact ⟨rfl, HB1.out⟩
 | true =>
   go_wp2_with fail
   refine (HT.out _ HB1.out).mono ?_
   rintro x W2 ⟨rfl, hb2⟩
   have HB2 := hide (HB1.out.trans (hb2.mono HB1.out.size))
   clear hb2 HT
   go_wp2
   go_ret
   rw [HDD.out]
   exact ⟨rfl, HB2.out⟩

theorem size_any (n : Int) (w : World) (h0 : -9223372036854775808 <= n) (h1 : n <= 9223372036854775807) :
   Calls Tryz.prog 138 #[.int .i64 n] w fun e w' => e = .returned (.int .i64 (sizeF n : Nat)) ∧ Below w.heap.size w w' := by
 by_cases h : 0 <= n ∧ n <= 1048576
 · obtain ⟨h2, h3⟩ := h
   have HE : Hid (sizeF n = (Lib.uvarint n.toNat).length + 4 + n.toNat) := if_pos ⟨h2, h3⟩
   have HP : Hid (∀ w, Calls Tryz.prog 136 #[.slice none 0 0, .int .i64 n] w fun e w' => ∃ ao cap, e = .returned (.slice ao (Lib.uvarint n.toNat).length cap) ∧ Below w.heap.size w w') := by
     intro w
     refine (put_any (.slice none 0 0) [] n w (Rd.nil _) (by simp)).mono ?_
     have e : putOf [] n = Lib.uvarint n.toNat := if_pos ⟨by omega, by omega⟩
     rintro e' w' ⟨v', rfl, ho, hb⟩
     rw [e] at ho
     obtain ⟨ao, cap, rfl, _⟩ := ho.rd
     exact ⟨ao, cap, rfl, hb⟩
   have hl3 : (Lib.uvarint n.toNat).length <= 3 := len3 (by omega)
   generalize (Lib.uvarint n.toNat).length = q at *
   go_enter Tryz.func138, Tryz.ntmps138
   go_wp2_with fail
   refine (HP.out _).mono ?_
   rintro e w1 ⟨ao, cap, rfl, hb1⟩
   have HB1 := hide hb1
   clear hb1 HP
   go_wp2
   go_ret
   refine ⟨ret_int ?_, HB1.out⟩
   rw [HE.out]
   omega
 · have HE : Hid (sizeF n = 0) := if_neg h
   by_cases h2 : n < 0
   · clear h
     go_enter Tryz.func138, Tryz.ntmps138
     go_wp2
     go_ret
     exact ⟨ret_int (by rw [HE.out]; rfl), Below.refl _ _⟩
   · have h3 : 1048576 < n := by omega
     clear h
     go_enter Tryz.func138, Tryz.ntmps138
     go_wp2
     go_ret
     exact ⟨ret_int (by rw [HE.out]; rfl), Below.refl _ _⟩

theorem cut_any (v : Value) (l : List UInt8) (w : World) (hr : Rd w v l) :
   Calls Tryz.prog 220 #[v] w fun e w' => e = .returned (.bool (decide (isOpen l))) ∧ w' = w := by
 obtain ⟨ao, cap, rfl, hlc, hcm, hn0, hao⟩ := hr
 clear hn0
 have hml : (l.length : Int) <= 9223372036854775807 := by unfold maxLen at hcm; omega
 by_cases h10 : (l.length : Int) < 10
 · go_enter Tryz.func220, Tryz.ntmps220
   go_wp2
   go_loop [10] (fun i => ∃ k : Nat, i = .int .i64 k ∧ k <= l.length ∧ Hid (∀ j, j < k -> 128 <= (l.getD j 0).toNat)) (fun i => l.length - (intOf i).toNat)
   case atStart => exact ⟨0, rfl, by omega, fun j hj => by omega⟩
   case round =>
     obtain ⟨k, rfl, hkl, hall⟩ := hrel
     by_cases hlt : k < l.length
     · rcases hao with hao | ⟨b, off, rfl, hc⟩
       · subst hao; simp at hlt
       · have hck := hc k hlt
         clear hc
         obtain ⟨y, hy⟩ : ∃ y, y = (l.getD k 0).toNat := ⟨_, rfl⟩
         rw [<- hy] at hck
         have HY : Hid (y = (l.getD k 0).toNat) := hy
         clear hy
         by_cases hyb : (y : Int) < 128
         · go_wp2
           go_ret
           refine ⟨ret_bool ?_, rfl⟩
           symm
           refine decide_eq_false fun ho => ?_
           have := ho.2 k hlt
           rw [<- HY.out] at this
           omega
         · go_wp2
           go_round
           case rel =>
             refine ⟨k + 1, by go_num, by omega, fun j hj => ?_⟩
             by_cases e : j = k
             · rw [e, <- HY.out]; omega
             · exact hall.out j (by omega)
           case measure => simp [intOf]; omega
     · go_wp2
       go_ret
       refine ⟨ret_bool ?_, rfl⟩
       symm
       exact decide_eq_true ⟨by omega, fun j hj => hall.out j (by omega)⟩
 · go_enter Tryz.func220, Tryz.ntmps220
   go_wp2
   go_ret
   refine ⟨ret_bool ?_, rfl⟩
   symm
   exact decide_eq_false fun ho => by have := ho.1; omega

theorem Own.made0 (w : World) (B : Nat) (hB : B <= w.heap.size) : Own (w.alloc (.cells #[] 5)) B (.slice (some ⟨w.heap.size, 0, none⟩) 0 0) [] :=
 ⟨rfl, .inr ⟨w.heap.size, 0, #[], rfl, hB, heap_alloc_new w _, Nat.le_refl _, Nat.zero_le _, rfl, rfl⟩⟩

theorem clone_any (v : Value) (l : List UInt8) (w : World) (hr : Rd w v l) (hlim : l.length <= 70368744177664) :
   Calls Tryz.prog 117 #[v] w fun e w' => ∃ v', e = .returned v' ∧ Own w' w.heap.size v' l ∧ Below w.heap.size w w' := by
 have HR := hide hr
 obtain ⟨ao, cap, rfl, hlc, hcm, hn0, hao⟩ := hr
 cases ao with
 | none =>
   have hc := hn0 rfl
   have hl : l = [] := List.eq_nil_of_length_eq_zero (by omega)
   subst hl
   subst hc
   clear hao hn0
   have hnil : ∀ w, (binOp .eql 53 (.slice none 0 0) (.slice none 0 0)).run Tryz.prog w = .ok (.bool true) w := fun w => run_eql_slice_nil w _ _ none 0 0 Tryz.underlying53
   go_enter Tryz.func117, Tryz.ntmps117
   go_wp2
   go_ret
   exact ⟨_, rfl, Own.nil _ _, Below.refl _ _⟩
 | some ad =>
   clear hao hn0 hlc hcm
   have hnil : ∀ w, (binOp .eql 53 (.slice (some ad) l.length cap) (.slice none 0 0)).run Tryz.prog w = .ok (.bool false) w := fun w => run_eql_slice_nil w _ _ (some ad) _ _ Tryz.underlying53
   have HO := hide (Own.made0 w w.heap.size (Nat.le_refl _))
   have HB := hide ((Below.refl w.heap.size w).alloc (Nat.le_refl _) (.cells #[] 5))
   have HR1 := hide (HR.out.below HB.out (Nat.le_refl _))
   have HS : Hid (w.heap.size <= (w.alloc (.cells #[] 5)).heap.size) := HB.out.size
   go_enter Tryz.func117, Tryz.ntmps117
   go_wp2_with (at_builtin; refine wpList_append_rd _ rfl _ _ rfl w.heap.size _ [] rfl HO.out _ l rfl HR1.out (by simp; omega) HS.out ?_)
   intro v4 w4 ho4 hb4
   have HO4 := hide ho4
   have HB4 := hide (HB.out.trans hb4)
   clear ho4 hb4
   go_wp2
   go_ret
   exact ⟨v4, rfl, HO4.out, HB4.out⟩

set_option maxHeartbeats 1000000 in
theorem encode_any (v : Value) (l : List UInt8) (w : World) (hr : Rd w v l) :
   Calls Tryz.prog 98 #[v] w fun e w' => ∃ v', e = .returned (.tuple #[v', .int .i64 ((encF l).2 : Nat)]) ∧ Own w' w.heap.size v' (encF l).1 ∧ Below w.heap.size w w' := by
 have HR := hide hr
 obtain ⟨i0, hi, hz0, hz1, hz2⟩ := info_parts info8
 obtain ⟨ao, cap, rfl, hlc, hcm, hn0, hao⟩ := hr
 clear hn0 hao
 have hml : (l.length : Int) <= 9223372036854775807 := by unfold maxLen at hcm; omega
 by_cases h : (l.length : Int) <= 1048576
 · have HE : Hid (encF l = (headOf l ++ Lib.leBytes 4 (crcMore 0 (headOf l)), 0)) := if_pos (by omega)
   have HP : Hid (∀ w, Calls Tryz.prog 136 #[.slice none 0 0, .int .i64 (l.length : Int)] w fun e w' => ∃ v', e = .returned v' ∧ Own w' w.heap.size v' (Lib.uvarint l.length) ∧ Below w.heap.size w w') := by
     intro w
     have := put_any (.slice none 0 0) [] (l.length : Int) w (Rd.nil _) (by simp)
     have e : putOf [] (l.length : Int) = Lib.uvarint l.length := if_pos ⟨by omega, by omega⟩
     rwa [e] at this
   have HZ : Hid (∀ w, Calls Tryz.prog 138 #[.int .i64 (l.length : Int)] w fun e w' => e = .returned (.int .i64 (sizeF (l.length : Int) : Nat)) ∧ Below w.heap.size w w') := fun w => size_any _ w (by omega) (by omega)
   have HS : Hid (∀ v w, Rd w v (headOf l) -> Calls Tryz.prog 140 #[v] w fun e w' => e = .returned (.int .u32 (crcMore 0 (headOf l) : Nat)) ∧ Below w.heap.size w w') := fun v w h => sum_any v _ w h
   have HF : Hid (∀ w, Calls Tryz.prog 139 #[.int .u32 (crcMore 0 (headOf l) : Nat)] w fun e w' => ∃ v', e = .returned v' ∧ Own w' w.heap.size v' (Lib.leBytes 4 (crcMore 0 (headOf l))) ∧ Below w.heap.size w w') := fun w => fixed32_any _ w (crc_lt _)
   have HH : Hid (headOf l = Lib.uvarint l.length ++ l) := rfl
   have HL4 : Hid ((Lib.leBytes 4 (crcMore 0 (headOf l))).length = 4) := Lib.leBytes_length 4 _
   have HL3 : Hid ((Lib.uvarint l.length).length <= 3) := len3 (by omega)
   have hsz : sizeF (l.length : Int) <= 2000000 := by
     have e : sizeF (l.length : Int) = (Lib.uvarint l.length).length + 4 + l.length := if_pos ⟨by omega, h⟩
     have := HL3.out
     rw [e]
     omega
   generalize sizeF (l.length : Int) = z at *
   generalize crcMore 0 (headOf l) = s at *
   obtain ⟨S, hS⟩ : ∃ S : Int, S = (s : Int) := ⟨_, rfl⟩
   rw [<- hS] at HF HS
   clear hS
   generalize Lib.leBytes 4 s = q at *
   generalize Lib.uvarint l.length = u at *
   generalize headOf l = hd at *
   have hh := HH.out
   subst hh
   clear HH
   go_enter Tryz.func98, Tryz.ntmps98
   go_wp2_with fail
   refine (HZ.out _).mono ?_
   rintro e w1 ⟨rfl, hb1⟩
   have HB1 := hide hb1
   have hs1 := hb1.size
   clear hb1 HZ
   go_wp2_with (at_make; refine wpList_make_own _ rfl _ _ 53 rfl w.heap.size 5 i0 (.int .u8 0) 1 Tryz.underlying53 hi hz0 hz1 _ _ _ z rfl rfl (by omega) (by rw [hz2]; omega) (by unfold maxLen; omega) hs1 ?_)
   intro w2 hown hgrow
   have HO2 : Hid (Own w2 w.heap.size (.slice (some ⟨w1.heap.size, 0, none⟩) 0 z) []) := hown
   have HB2 := hide (HB1.out.grown hgrow hs1 (fun k hk => by cases hk))
   have hs2 := HB2.out.size
   clear hown hgrow
   go_wp2_with fail
   refine (HP.out _).mono ?_
   rintro e w3 ⟨v3, rfl, ho3, hb3⟩
   have HB3 := hide (HB2.out.trans (hb3.mono hs2))
   have HR3 := hide ho3.rd
   have HO3 := hide (HO2.out.below hb3 (Nat.le_refl _))
   have hs3 := HB3.out.size
   clear ho3 hb3 HP
   go_wp2_with (at_builtin; refine wpList_append_rd _ rfl _ _ rfl w.heap.size _ [] rfl HO3.out _ u rfl HR3.out (by have := HL3.out; simp; omega) hs3 ?_)
   intro v4 w4 ho4 hb4
   have HB4 := hide (HB3.out.trans hb4)
   have HO4 : Hid (Own w4 w.heap.size v4 u) := ho4
   have hs4 := HB4.out.size
   clear ho4 hb4
   go_wp2_with (at_builtin; refine wpList_append_rd _ rfl _ _ rfl w.heap.size _ u rfl HO4.out _ l rfl (HR.out.below HB4.out (Nat.le_refl _)) (by have := HL3.out; omega) hs4 ?_)
   intro v5 w5 ho5 hb5
   have HB5 := hide (HB4.out.trans hb5)
   have HO5 : Hid (Own w5 w.heap.size v5 (u ++ l)) := ho5
   have hs5 := HB5.out.size
   clear ho5 hb5
   go_wp2_with fail
   refine (HS.out _ _ HO5.out.rd).mono ?_
   rintro e w6 ⟨rfl, hb6⟩
   have HB6 := hide (HB5.out.trans (hb6.mono hs5))
   have HO6 := hide (HO5.out.below hb6 (Nat.le_refl _))
   have hs6 := HB6.out.size
   clear hb6 HS
   go_wp2_with fail
   refine (HF.out _).mono ?_
   rintro e w7 ⟨v7, rfl, ho7, hb7⟩
   have HB7 := hide (HB6.out.trans (hb7.mono hs6))
   have HR7 := hide ho7.rd
   have HO7 := hide (HO6.out.below hb7 (Nat.le_refl _))
   have hs7 := HB7.out.size
   clear ho7 hb7 HF
   go_wp2_with (at_builtin; refine wpList_append_rd _ rfl _ _ rfl w.heap.size _ (u ++ l) rfl HO7.out _ q rfl HR7.out (by have := HL3.out; have := HL4.out; simp; omega) hs7 ?_)
   intro v8 w8 ho8 hb8
   have HB8 := hide (HB7.out.trans hb8)
   have HO8 := hide ho8
   clear ho8 hb8
   go_wp2
   go_ret2
   exact ⟨v8, by rw [HE.out]; rfl, by rw [HE.out]; show Own _ _ _ (u ++ l ++ q); rw [List.append_assoc]; exact HO8.out, HB8.out⟩
 · have HE : Hid (encF l = ([], 5)) := if_neg (by omega)
   go_enter Tryz.func98, Tryz.ntmps98
   go_wp2
   go_ret2
   exact ⟨_, by rw [HE.out]; rfl, by rw [HE.out]; exact Own.nil _ _, Below.refl _ _⟩

theorem takeR_snoc {l : List Rec} {q : Nat} (h : q < l.length) : l.take (q + 1) = l.take q ++ [l.getD q zeroR] := by
 rw [List.take_add_one]
 simp [List.getD, h]

theorem chain_get : ∀ (l : List Rec) (i : Int) (j : Nat), chainR i l -> j < l.length -> (l.getD j zeroR).idx = i + j
 | r :: t, i, 0, h, _ => by
   have := h.1
   simp [List.getD, this]
 | r :: t, i, j + 1, h, hj => by
   have := chain_get t (i + 1) j h.2 (by simpa using hj)
   simp only [List.getD, List.getElem?_cons_succ] at this ⊢
   rw [this]
   omega

theorem chain_snoc : ∀ (l : List Rec) (i : Int) (r : Rec), chainR i (l ++ [r]) ↔ chainR i l ∧ r.idx = i + l.length
 | [], i, r => by simp [chainR]
 | s :: t, i, r => by
   rw [List.cons_append, chainR, chainR, chain_snoc t (i + 1) r, List.length_cons, and_assoc]
   constructor
   · rintro ⟨h1, h2, h3⟩
     exact ⟨h1, h2, by omega⟩
   · rintro ⟨h1, h2, h3⟩
     exact ⟨h1, h2, by omega⟩

theorem chain_take : ∀ (l : List Rec) (i : Int) (k : Nat), chainR i l -> chainR i (l.take k)
 | _, _, 0, _ => by simp [chainR]
 | [], _, k + 1, _ => by simp [chainR]
 | r :: t, i, k + 1, h => by
   rw [List.take_succ_cons]
   exact ⟨h.1, chain_take t (i + 1) k h.2⟩

def partB (l : List Rec) (k : Nat) : Prop := (∀ r ∈ l.take k, FitsR r) ∧ chainR (l.headD zeroR).idx (l.take k)

theorem partB_zero (l : List Rec) : partB l 0 := ⟨fun r h => by simp at h, by simp [chainR]⟩

theorem partB_next {l : List Rec} {k : Nat} (hk : k < l.length) : partB l (k + 1) ↔ partB l k ∧ FitsR (l.getD k zeroR) ∧ (l.getD k zeroR).idx = (l.headD zeroR).idx + k := by
 unfold partB
 rw [takeR_snoc hk, chain_snoc]
 have hl : (l.take k).length = k := by simp; omega
 rw [hl]
 constructor
 · rintro ⟨h1, h2, h3⟩
   exact ⟨⟨fun r hr => h1 r (by simp [hr]), h2⟩, h1 _ (by simp), h3⟩
 · rintro ⟨⟨h1, h2⟩, h3, h4⟩
   refine ⟨fun r hr => ?_, h2, h4⟩
   rcases List.mem_append.1 hr with h | h
   · exact h1 r h
   · simp only [List.mem_singleton] at h
     rw [h]
     exact h3

theorem partB_all {l : List Rec} (h : partB l l.length) (h1 : 1 <= l.length) (h2 : l.length <= 256) : FitsB l := by
 unfold partB at h
 rw [List.take_length] at h
 exact ⟨h1, h2, h.1, h.2⟩

theorem FitsB.part {l : List Rec} (h : FitsB l) (k : Nat) : partB l k := ⟨fun r hr => h.2.2.1 r (List.mem_of_mem_take hr), chain_take l _ k h.2.2.2⟩

theorem putOpL_len30 {o : Opn} (h : FitsO o) : (putOpL o).length <= 30 := by
 have h1 := uv10 (fits_i64 h).1
 have h2 := uv10 (fits_i64 h).2
 have hc0 : 0 <= o.code := h.1
 have hc1 : o.code <= 10 := h.2.1
 have h3 := uv10' (n := o.code.toNat) (by omega)
 unfold putOpL
 rw [List.length_append, List.length_append]
 omega

theorem encOne_len {pre : List Rec} (hp : ∀ r ∈ pre, FitsR r) {r : Rec} (hr : FitsR r) : (encOne pre r).length <= 60 := by
 have hd := diff_i64 hp hr
 have hresp := fitsR_resp hr
 have h4 := putOpL_len30 hr.1
 obtain ⟨_, _, _, _, _, hp0, hp1, _⟩ := hr
 have h1 := uv10' (n := r.proc.toNat) (by omega)
 have h2 := uv10 hd
 have h3 := uv10 hresp
 unfold encOne
 simp only [List.length_append]
 omega

theorem encRs_len : ∀ (l pre : List Rec), (∀ r ∈ pre, FitsR r) -> (∀ r ∈ l, FitsR r) -> (encRs pre l).length <= 60 * l.length
 | [], _, _, _ => by simp [encRs]
 | r :: t, pre, hp, hl => by
   have h1 := encOne_len hp (hl r (by simp))
   have h2 := encRs_len t (pre ++ [r]) (fun s hs => by
     rcases List.mem_append.1 hs with h | h
     · exact hp s h
     · simp at h; rw [h]; exact hl r (by simp)) (fun s hs => hl s (by simp [hs]))
   rw [encRs, List.length_append, List.length_cons]
   omega

def EncodedB (w : World) (l : List Rec) (e : Ending) (w' : World) : Prop :=
 ∃ v', e = .returned (.tuple #[v', .int .i64 (if FitsB l then 0 else 1)]) ∧ Own w' w.heap.size v' (if FitsB l then encB l else []) ∧ Below w.heap.size w w'

theorem Below.allocs {a w : World} (h : Below a.heap.size a w) (X : Obj) : Below a.heap.size a (w.alloc X) := h.alloc h.size X

end Go.Proofs.YtpopbandpnaicaaGreatDoor

