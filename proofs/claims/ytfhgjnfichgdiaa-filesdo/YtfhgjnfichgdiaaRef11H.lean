/- Contracts of ferrymanref11: Remove, Rename. -/
import Derived.Test.YtfhgjnfichgdiaaRef11G
namespace Go.Proofs.Ytfhgjnfichgdiaa
open Go.RowKit

theorem ownBkS {w : World} {base n s : Nat} {t : TypeId} {v : Value} {xs : List Value} (h : w.ownsRow base t s v n xs) {g : Nat} (hg : v.ownBlock = some g) : ∃ cs, Bk t w g cs := by
  rcases h.2 with ⟨hv, _⟩ | ⟨g', cap, cur, hv, _, hb, _⟩
  · rw [hv] at hg; cases hg
  · rw [hv] at hg
    obtain rfl : g' = g := by simpa [Value.ownBlock] using hg
    exact ⟨_, hb⟩

theorem info_rch : (Try.prog.info? 81).map (fun i => (i.zero, i.size, i.bytes)) = some (some (.agg #[.int .i64 0, .int .i64 0, .int .i64 0]), 3, 24) := by kernel_rfl

theorem run_append_rch (w : World) (ty : TypeId) (v : Value) (l : List Ch) (h : w.ownsRow 0 81 3 v l.length (chCells l)) (c : Ch) (hlim : l.length ≤ 10000000) :
    ∃ v' w', (Builtin.append_ #[40, 40] ty #[v, .slice (some ⟨w.heap.size, 0, none⟩) 1 1]).run Try.prog (w.alloc (.cells (chC c) 81)) = .ok v' w' ∧
      w'.ownsRow 0 81 3 v' (l ++ [c]).length (chCells (l ++ [c])) ∧ (w.alloc (.cells (chC c) 81)).grownBy w' v.ownBlock ∧ (v'.ownBlock = v.ownBlock ∨ v'.ownBlock = some (w.heap.size + 1)) := by
  obtain ⟨i0, hi, hz0, hz1, hz2⟩ := info_parts info_rch
  obtain ⟨v', w', hrun, ho, hg, _, hl⟩ := run_append_own_at (P := Try.prog) (w.alloc (.cells (chC c) 81)) 0 40 ty 81 i0 _ 3 24 Try.underlying40 hi hz0 hz1 hz2 rfl (by decide) v l.length (chCells l) (World.ownsRow.alloc h _)
    ⟨w.heap.size, 0, none⟩ 1 1 (chCells [c]) (chCells_length [c]) (fun j u hj => by
      rw [Addr.add_lit, Nat.zero_add, cell_of_row _ w.heap.size j _ 81 (0, 0) (heap_alloc_new w _)]
      simpa [chCells] using hj) (chCells_one [c]) (by unfold maxLen; omega) (by omega) (Nat.zero_le _)
  refine ⟨v', w', hrun, ?_, hg, ?_⟩
  · rw [List.length_append, chCells_app]
    exact ho
  · rcases hl with hl | hl
    · exact .inl hl
    · exact .inr (by rw [hl]; simp)

theorem wpList_append_rch (w : World) {ops : Array Oper} {rest : List Oper} {o : Oper} {a : Act} {Q : Exit → Act → World → Prop} (hgd : o.guard = none) (s x : Operand)
    (ho : o.op = .call { callee := .builtin .append, args := #[s, x], argTypes := #[40, 40] })
    (v : Value) (l : List Ch) (hs : a.eval s = v) (h : w.ownsRow 0 81 3 v l.length (chCells l)) (c : Ch) (hx : a.eval x = .slice (some ⟨w.heap.size, 0, none⟩) 1 1) (hlim : l.length ≤ 10000000)
    (hK : ∀ v' w', w'.ownsRow 0 81 3 v' (l ++ [c]).length (chCells (l ++ [c])) → (w.alloc (.cells (chC c) 81)).grownBy w' v.ownBlock → (v'.ownBlock = v.ownBlock ∨ v'.ownBlock = some (w.heap.size + 1)) →
      wpList Try.prog ops Q rest (a.put o.dst v') w') : wpList Try.prog ops Q (o :: rest) a (w.alloc (.cells (chC c) 81)) :=
  wpList_plain hgd fun _ hK' => by
    obtain ⟨v', w', hrun, h2, h3, h4⟩ := run_append_rch w o.type v l h c hlim
    unfold Oper.wp execOp
    simp only [ho, resolve, invoke, builtin, Sem.run_bind, Sem.run_pure, Result.andThen_ok, List.map_toArray, List.map_cons, List.map_nil, hs, hx, hrun]
    exact hK' _ _ (hK v' w' h2 h3 h4)

/-- One more change waits. -/
theorem RefL.addWait {F : Nat → Prop} {w w2 : World} {p : Nat} {L : RLay} {d : Dk} {c : Ch} {v' : Value} (h : RefL F w p L d)
    (hrow : w2.ownsRow 0 81 3 v' (d.waits ++ [c]).length (chCells (d.waits ++ [c]))) (hg : (w.alloc (.cells (chC c) 81)).grownBy w2 L.wv.ownBlock) (hv : v'.ownBlock = L.wv.ownBlock ∨ v'.ownBlock = some (w.heap.size + 1)) :
    RefL (Gr F w w2) (w2.setCell ⟨p, 3, none⟩ v') p { L with wv := v' } { d with waits := d.waits ++ [c] } ∧ Only F w (w2.setCell ⟨p, 3, none⟩ v') ∧ w2.cell? ⟨p, 3, none⟩ = some L.wv ∧ w2.frozen? ⟨p, 3, none⟩ = false := by
  have hs : w.heap.size + 1 ≤ w2.heap.size := by have := hg.size; simpa using this
  have hk2 : ∀ k, F k → L.wv.ownBlock ≠ some k → w2.heap[k]? = w.heap[k]? := fun k hf hr => by
    have hlt := h.lt k hf
    rw [hg.block k (by simp; omega) (fun e => hr e.symm), Below.heap_alloc _ _ _ hlt]
  have hwr : ∀ {t : TypeId} {k : Nat} {cs : Array Value}, Bk t w k cs → t ≠ 81 → L.wv.ownBlock ≠ some k := fun hb ht hg => by
    obtain ⟨cs', hb'⟩ := ownBkS h.waits hg
    exact (hb.ne hb' ht) rfl
  have hhead : Bk 42 w2 p (rheadC L d.room) := h.head.keep (hk2 p h.fh (hwr h.head (by decide)))
  have hbk : ∀ {t : TypeId} {k : Nat} {cs : Array Value}, Bk t w k cs → F k → t ≠ 81 → t ≠ 42 → (w2.setCell ⟨p, 3, none⟩ v').heap[k]? = w.heap[k]? := fun hb hf h1 h2 => by
    rw [Below.heap_setCell _ _ _ _ (hb.ne h.head h2), hk2 _ hf (hwr hb h1)]
  have hrw : ∀ {t : TypeId} {s n g : Nat} {v : Value} {xs : List Value}, w.ownsRow 0 t s v n xs → v.ownBlock = some g → F g → t ≠ 81 → t ≠ 42 → (w2.setCell ⟨p, 3, none⟩ v').heap[g]? = w.heap[g]? := fun hr hg hf h1 h2 => by
    obtain ⟨cs', hb'⟩ := ownBkS hr hg
    exact hbk hb' hf h1 h2
  refine ⟨⟨hhead.set 3 v', ownsRow_keep h.files fun g hg => hrw h.files hg (h.ff g hg) (by decide) (by decide), ownsRow_keep h.kept fun g hg => hrw h.kept hg (h.fk g hg) (by decide) (by decide), ownsRow_keep hrow fun g hg => Below.heap_setCell _ _ _ _ (by
      obtain ⟨cs', hb'⟩ := ownBkS hrow hg
      exact hb'.ne hhead (by decide)),
    fun i hi => (h.file i hi).keep (hbk (h.file i hi).box (h.fp i hi) (by decide) (by decide)) fun g hg => hrw (h.file i hi).own hg (h.fb i hi g hg) (by decide) (by decide), h.psn, h.vsn, .inl h.fh, fun g hg => .inl (h.ff g hg), fun g hg => .inl (h.fk g hg), fun g hg => ?_, fun i hi => .inl (h.fp i hi), fun i hi g hg => .inl (h.fb i hi g hg), fun k hk => ?_⟩, ?_, (hhead.cell 3 rfl).1, (hhead.cell 3 rfl).2⟩
  · rcases hv with hv | hv
    · exact .inl (h.fw g (by rw [← hv]; exact hg))
    · have hg' : v'.ownBlock = some g := hg
      rw [hv] at hg'
      obtain rfl := Option.some.inj hg'
      exact .inr ⟨by omega, by have := (World.ownsRow.lt hrow _ hv).2; omega⟩
  · have := Gr.lt (by omega) h.lt k hk
    simpa using this
  · have o2 : Only F (w.alloc (.cells (chC c) 81)) w2 := Only.ofGrown hg fun k e _ => h.fw k e
    exact (((Only.refl F w).alloc _).trans o2 (fun _ _ hf => hf)).setCell 3 (fun _ => h.fh) v'

/-- What follows upon did. -/
theorem RDid.of {F F1 : Nat → Prop} {w W2 W4 : World} {p : Nat} {d' : Dk} {L : RLay} {N T : Nat} (hon : Only F w W2) (hF : ∀ k, F1 k → F k ∨ w.heap.size ≤ k) (h4 : (∃ L', RefL F1 W4 p L' { d' with power := tickD d'.power } ∧ PwR L' (tickD d'.power) ∧ (I64 L.left → I64 L'.left))) (hon4 : Only F1 W2 W4) (hl : I64 L.left)
    (hok : OkD { d' with power := tickD d'.power }) (hb : Bnd { d' with power := tickD d'.power } N T) (hr : I64 d'.room) (hp : I64 d'.power) : RDid F w p { d' with power := tickD d'.power } 0 N T (.returned (.int .i64 0)) W4 := by
  obtain ⟨L4, hd4, hp4, hl4⟩ := h4
  refine ⟨rfl, F1, ⟨L4, hd4, hp4, hl4 hl, hok, hb, hr, tick_i64 hp⟩, hon.trans hon4 (fun k hk hf => ?_), hF⟩
  rcases hF k hf with h | h
  · exact h
  · omega

set_option maxRecDepth 100000 in
set_option maxHeartbeats 1000000 in
theorem refRemove_any {F : Nat → Prop} {p : Nat} {d : Dk} {N T : Nat} (n : Int) (w : World) (h : Rsk F w p d N T) (hN : N ≤ 900000) :
    Calls Try.prog 26 #[ptr p, .int .i64 n] w fun e w' => RDid F w p (removeD d n).1 (removeD d n).2 (N + 2) T e w' := by
  have HD := hide h
  obtain ⟨L, h, hp, hle, hok, hbn, hrm, hpw⟩ := h
  have HF := hide (refFind_any n w h hok hbn hN)
  have H := hide h
  have HOK := hide hok
  have HBN := hide hbn
  have HI := hide (And.intro hrm hpw)
  have HP := hide hp
  have HLE := hide hle
  obtain ⟨⟨-, -, -, -, c4, -, -⟩, -⟩ := h.cells
  rw [hp.1] at c4
  clear h hok hbn hrm hpw hp hle
  unfold removeD
  by_cases h0 : d.power = 0
  · rw [if_pos h0]
    rw [decide_eq_true h0] at c4
    clear h0
    go_enter Try.func26, Try.ntmps26
    go_wp2
    go_ret
    exact RDid.same HD.out (Below.refl _ _) (by omega) (Nat.le_refl _)
  rw [if_neg h0]
  have HZ := hide h0
  rw [decide_eq_false h0] at c4
  clear h0
  cases ho : look (dirD d) n with
  | none =>
    rw [ho] at HF
    dsimp only [fNum] at HF ⊢
    clear ho
    go_enter Try.func26, Try.ntmps26
    go_wp2_with fail
    refine HF.out.mono ?_
    rintro e w' ⟨rfl, hb⟩
    have HB := hide hb
    clear hb
    go_wp2
    go_ret
    exact RDid.same HD.out HB.out (by omega) (Nat.le_refl _)
  | some f =>
    rw [ho] at HF
    dsimp only [fNum] at HF ⊢
    have hf : f < d.files.length := (HOK.out.dir.mayOf ho).2
    have hfn : f ≤ 900000 := by have := HBN.out.files; omega
    have HLK := hide ho
    clear ho
    go_enter Try.func26, Try.ntmps26
    go_wp2_with fail
    refine HF.out.mono ?_
    rintro e w1 ⟨rfl, hb⟩
    have HB := hide hb
    have HR := hide (H.out.below hb)
    have HSZ : Hid (w.heap.size ≤ w1.heap.size) := hide hb.size
    obtain ⟨⟨-, -, -, k3, -⟩, -, -, j3, -⟩ := HR.out.cells
    obtain ⟨va, vc, hvs⟩ : ∃ a c, L.wv = .slice a d.waits.length c := by
      rcases H.out.waits.2 with ⟨hv, hn⟩ | ⟨g, cap, cur, hv, _⟩
      · exact ⟨_, _, by rw [hv, hn]⟩
      · exact ⟨_, _, hv⟩
    rw [hvs] at k3
    have HWV := hide hvs
    have HWR : Hid (w1.ownsRow 0 81 3 (.slice va d.waits.length vc) d.waits.length (chCells d.waits)) := hide (by rw [← hvs]; exact HR.out.waits)
    have HLN : Hid (d.waits.length ≤ 10000000) := hide (by have := HBN.out.names; omega)
    clear hvs hb c4
    go_wp2_with (at_builtin; refine (fun (h : True → _) => h trivial) ?_)
    intro _
    refine wpList_append_rch w1 rfl _ _ rfl (.slice va d.waits.length vc) d.waits rfl HWR.out (.take n) rfl HLN.out ?_
    intro v2 w2 hr2 hg2 hv2
    have hA := HR.out.addWait (c := .take n) hr2 (by rw [HWV.out]; exact hg2) (by rw [HWV.out]; exact hv2)
    obtain ⟨hA1, hA2, t3, s3⟩ := hA
    have HD1 := hide hA1
    have HON1 : Hid (Only F w (w2.setCell ⟨p, 3, none⟩ v2)) := hide ((Only.ofBelow HB.out).trans hA2 (fun _ _ hf => hf))
    have HGS : Hid (∀ k, Gr F w1 w2 k → F k ∨ w.heap.size ≤ k) := hide (fun k hk => by
      rcases hk with hk | hk
      · exact .inl hk
      · exact .inr (by have := HSZ.out; omega))
    rw [HWV.out] at t3
    obtain ⟨W2, hW2⟩ : ∃ W2, W2 = w2.setCell ⟨p, 3, none⟩ v2 := ⟨_, rfl⟩
    rw [← hW2] at HD1 HON1
    have HW2 := hide hW2
    obtain ⟨a9, n9, c9, hv9⟩ : ∃ a b c, v2 = .slice a b c := by
      rcases hr2.2 with ⟨hv, hn⟩ | ⟨g, cap, cur, hv, _⟩
      · exact ⟨_, _, _, hv⟩
      · exact ⟨_, _, _, hv⟩
    subst hv9
    clear hA1 hA2 hr2 hg2 hv2 hW2
    go_upto_region 6 with fail
    rw [← HW2.out]
    clear HW2 t3 s3 k3 j3
    go_wp2_with fail
    refine (refDid_any W2 HD1.out HP.out HZ.out HI.out.2).mono ?_
    rintro e W4 ⟨rfl, hd4, hon4⟩
    have HD4 := hide hd4
    have HON4 := hide hon4
    clear hd4 hon4
    go_wp2
    go_ret
    exact RDid.of (d' := { d with waits := d.waits ++ [.take n] }) (L := L) (HON1.out) (HGS.out) HD4.out HON4.out HLE.out (HOK.out.taken HLK.out _) ((HBN.out.waited (.take n) _).mono' (by omega) (Nat.le_refl _)) HI.out.1 HI.out.2

set_option maxRecDepth 100000 in
set_option maxHeartbeats 1000000 in
theorem refRename_any {F : Nat → Prop} {p : Nat} {d : Dk} {N T : Nat} (n m : Int) (w : World) (h : Rsk F w p d N T) (hN : N ≤ 900000) :
    Calls Try.prog 24 #[ptr p, .int .i64 n, .int .i64 m] w fun e w' => RDid F w p (renameD d n m).1 (renameD d n m).2 (N + 2) T e w' := by
  have HD := hide h
  obtain ⟨L, h, hp, hle, hok, hbn, hrm, hpw⟩ := h
  have HF := hide (refFind_any n w h hok hbn hN)
  have H := hide h
  have HOK := hide hok
  have HBN := hide hbn
  have HI := hide (And.intro hrm hpw)
  have HP := hide hp
  have HLE := hide hle
  obtain ⟨⟨-, -, -, -, c4, -, -⟩, -⟩ := h.cells
  rw [hp.1] at c4
  clear h hok hbn hrm hpw hp hle
  unfold renameD
  by_cases h0 : d.power = 0
  · rw [if_pos h0]
    rw [decide_eq_true h0] at c4
    clear h0
    go_enter Try.func24, Try.ntmps24
    go_wp2
    go_ret
    exact RDid.same HD.out (Below.refl _ _) (by omega) (Nat.le_refl _)
  rw [if_neg h0]
  have HZ := hide h0
  rw [decide_eq_false h0] at c4
  clear h0
  cases ho : look (dirD d) n with
  | none =>
    rw [ho] at HF
    dsimp only [fNum] at HF ⊢
    clear ho
    go_enter Try.func24, Try.ntmps24
    go_wp2_with fail
    refine HF.out.mono ?_
    rintro e w' ⟨rfl, hb⟩
    have HB := hide hb
    clear hb
    go_wp2
    go_ret
    exact RDid.same HD.out HB.out (by omega) (Nat.le_refl _)
  | some f =>
    rw [ho] at HF
    dsimp only [fNum] at HF ⊢
    have hf : f < d.files.length := (HOK.out.dir.mayOf ho).2
    have hfn : f ≤ 900000 := by have := HBN.out.files; omega
    have HLK := hide ho
    clear ho
    have HM : Hid (∀ W, Calls Try.prog 42 #[.int .i64 m] W fun e w' => e = .returned (.bool (mayN m)) ∧ w' = W) := hide (fun W => refMay_any m W)
    cases hmn : mayN m with
    | false =>
      rw [hmn] at HM
      clear hmn
      simp only [if_true]
      go_enter Try.func24, Try.ntmps24
      go_wp2_with fail
      refine HF.out.mono ?_
      rintro e w1 ⟨rfl, hb⟩
      have HB := hide hb
      have HR := hide (H.out.below hb)
      have HSZ : Hid (w.heap.size ≤ w1.heap.size) := hide hb.size
      obtain ⟨⟨-, -, -, k3, -⟩, -, -, j3, -⟩ := HR.out.cells
      obtain ⟨va, vc, hvs⟩ : ∃ a c, L.wv = .slice a d.waits.length c := by
        rcases H.out.waits.2 with ⟨hv, hn⟩ | ⟨g, cap, cur, hv, _⟩
        · exact ⟨_, _, by rw [hv, hn]⟩
        · exact ⟨_, _, hv⟩
      rw [hvs] at k3
      have HWV := hide hvs
      have HWR : Hid (w1.ownsRow 0 81 3 (.slice va d.waits.length vc) d.waits.length (chCells d.waits)) := hide (by rw [← hvs]; exact HR.out.waits)
      have HLN : Hid (d.waits.length ≤ 10000000) := hide (by have := HBN.out.names; omega)
      clear hvs hb c4
      go_wp2_with fail
      refine (HM.out _).mono ?_
      rintro e w' ⟨rfl, rfl⟩
      go_wp2
      go_ret
      exact RDid.same HD.out HB.out (by omega) (Nat.le_refl _)
    | true =>
      rw [hmn] at HM
      have HMN := hide hmn
      clear hmn
      simp only [Bool.true_eq_false, if_false]
      by_cases hne : n = m
      · rw [if_pos hne]
        have hb0 : (n != m) = false := by simpa using hne
        clear hne
        go_enter Try.func24, Try.ntmps24
        go_wp2_with fail
        refine HF.out.mono ?_
        rintro e w1 ⟨rfl, hb⟩
        have HB := hide hb
        have HR := hide (H.out.below hb)
        have HSZ : Hid (w.heap.size ≤ w1.heap.size) := hide hb.size
        obtain ⟨⟨-, -, -, k3, -⟩, -, -, j3, -⟩ := HR.out.cells
        obtain ⟨va, vc, hvs⟩ : ∃ a c, L.wv = .slice a d.waits.length c := by
          rcases H.out.waits.2 with ⟨hv, hn⟩ | ⟨g, cap, cur, hv, _⟩
          · exact ⟨_, _, by rw [hv, hn]⟩
          · exact ⟨_, _, hv⟩
        rw [hvs] at k3
        have HWV := hide hvs
        have HWR : Hid (w1.ownsRow 0 81 3 (.slice va d.waits.length vc) d.waits.length (chCells d.waits)) := hide (by rw [← hvs]; exact HR.out.waits)
        have HLN : Hid (d.waits.length ≤ 10000000) := hide (by have := HBN.out.names; omega)
        clear hvs hb c4
        go_wp2_with fail
        refine (HM.out _).mono ?_
        rintro e w' ⟨rfl, rfl⟩
        go_wp2_with fail
        refine (refDid_any _ HR.out HP.out HZ.out HI.out.2).mono ?_
        rintro e W4 ⟨rfl, hd4, hon4⟩
        have HD4 := hide hd4
        have HON4 := hide hon4
        clear hd4 hon4
        go_wp2
        go_ret
        exact RDid.of (d' := d) (L := L) (Only.ofBelow HB.out) (fun k hk => .inl hk) HD4.out HON4.out HLE.out (HOK.out.power _) (⟨by have := HBN.out.files; show d.files.length ≤ _; omega, by have := HBN.out.names; show d.kept.length + d.waits.length ≤ _; omega, HBN.out.bytes⟩) HI.out.1 HI.out.2
      · rw [if_neg hne]
        have hb0 : (n != m) = true := by simpa using hne
        have HNE := hide hne
        clear hne
        go_enter Try.func24, Try.ntmps24
        go_wp2_with fail
        refine HF.out.mono ?_
        rintro e w1 ⟨rfl, hb⟩
        have HB := hide hb
        have HR := hide (H.out.below hb)
        have HSZ : Hid (w.heap.size ≤ w1.heap.size) := hide hb.size
        obtain ⟨⟨-, -, -, k3, -⟩, -, -, j3, -⟩ := HR.out.cells
        obtain ⟨va, vc, hvs⟩ : ∃ a c, L.wv = .slice a d.waits.length c := by
          rcases H.out.waits.2 with ⟨hv, hn⟩ | ⟨g, cap, cur, hv, _⟩
          · exact ⟨_, _, by rw [hv, hn]⟩
          · exact ⟨_, _, hv⟩
        rw [hvs] at k3
        have HWV := hide hvs
        have HWR : Hid (w1.ownsRow 0 81 3 (.slice va d.waits.length vc) d.waits.length (chCells d.waits)) := hide (by rw [← hvs]; exact HR.out.waits)
        have HLN : Hid (d.waits.length ≤ 10000000) := hide (by have := HBN.out.names; omega)
        clear hvs hb c4
        go_wp2_with fail
        refine (HM.out _).mono ?_
        rintro e w1 ⟨rfl, rfl⟩
        go_wp2_with (at_builtin; refine (fun (h : True → _) => h trivial) ?_)
        intro _
        refine wpList_append_rch w1 rfl _ _ rfl (.slice va d.waits.length vc) d.waits rfl HWR.out (.move n m f) rfl HLN.out ?_
        intro v2 w2 hr2 hg2 hv2
        have hA := HR.out.addWait (c := .move n m f) hr2 (by rw [HWV.out]; exact hg2) (by rw [HWV.out]; exact hv2)
        obtain ⟨hA1, hA2, t3, s3⟩ := hA
        have HD1 := hide hA1
        have HON1 : Hid (Only F w (w2.setCell ⟨p, 3, none⟩ v2)) := hide ((Only.ofBelow HB.out).trans hA2 (fun _ _ hf => hf))
        have HGS : Hid (∀ k, Gr F w1 w2 k → F k ∨ w.heap.size ≤ k) := hide (fun k hk => by
          rcases hk with hk | hk
          · exact .inl hk
          · exact .inr (by have := HSZ.out; omega))
        rw [HWV.out] at t3
        obtain ⟨W2, hW2⟩ : ∃ W2, W2 = w2.setCell ⟨p, 3, none⟩ v2 := ⟨_, rfl⟩
        rw [← hW2] at HD1 HON1
        have HW2 := hide hW2
        obtain ⟨a9, n9, c9, hv9⟩ : ∃ a b c, v2 = .slice a b c := by
          rcases hr2.2 with ⟨hv, hn⟩ | ⟨g, cap, cur, hv, _⟩
          · exact ⟨_, _, _, hv⟩
          · exact ⟨_, _, _, hv⟩
        subst hv9
        clear hA1 hA2 hr2 hg2 hv2 hW2
        go_upto_region 11 with fail
        rw [← HW2.out]
        clear HW2 t3 s3 k3 j3
        go_wp2_with fail
        refine (refDid_any W2 HD1.out HP.out HZ.out HI.out.2).mono ?_
        rintro e W4 ⟨rfl, hd4, hon4⟩
        have HD4 := hide hd4
        have HON4 := hide hon4
        clear hd4 hon4
        go_wp2
        go_ret
        exact RDid.of (d' := { d with waits := d.waits ++ [.move n m f] }) (L := L) (HON1.out) (HGS.out) HD4.out HON4.out HLE.out (HOK.out.moved HLK.out HMN.out HNE.out _) ((HBN.out.waited (.move n m f) _).mono' (by omega) (Nat.le_refl _)) HI.out.1 HI.out.2

end Go.Proofs.Ytfhgjnfichgdiaa
