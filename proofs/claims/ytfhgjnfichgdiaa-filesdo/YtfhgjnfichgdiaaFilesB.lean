/- Contracts of the landed files: changes that wait. -/
import Derived.Test.YtfhgjnfichgdiaaFilesA
import Derived.Maps.AppendAt
namespace Go.Proofs.Ytfhgjnfichgdiaa
open Go.RowKit

/-- What a disk has, and what is new. -/
def Gr (F : Nat → Prop) (w w' : World) (k : Nat) : Prop := F k ∨ (w.heap.size ≤ k ∧ k < w'.heap.size)

theorem Gr.old {F : Nat → Prop} {w w' : World} {k : Nat} (h : F k) : Gr F w w' k := .inl h

theorem Gr.lt {F : Nat → Prop} {w w' : World} (hs : w.heap.size ≤ w'.heap.size) (hF : ∀ k, F k → k < w.heap.size) : ∀ k, Gr F w w' k → k < w'.heap.size := by
  rintro k (h | h)
  · have := hF k h; omega
  · exact h.2

set_option maxRecDepth 100000 in
theorem give_any (n : Int) (x : Nat) (w : World) :
    Calls Try.prog 35 #[.int .i64 n, ptr x] w fun e w' => e = .returned (.func (.func 53) #[] #[ptr (w.heap.size + 1), ptr w.heap.size]) ∧ w' = (w.alloc (.cells #[.int .i64 n] 3)).alloc (.cells #[ptr x] 67) := by
  have hmf : ∀ (fn : Fn) (first cap : Array Value) (w : World), (Instr.makeFunc fn first cap).run Try.prog w = .ok (.func fn first cap) w := fun _ _ _ _ => rfl
  go_enter Try.func35, Try.ntmps35
  go_wp2
  go_ret
  exact ⟨rfl, rfl⟩

set_option maxRecDepth 100000 in
theorem moveF_any (n to : Int) (x : Nat) (w : World) :
    Calls Try.prog 46 #[.int .i64 n, .int .i64 to, ptr x] w fun e w' => e = .returned (.func (.func 57) #[] #[ptr (w.heap.size + 1 + 1), ptr (w.heap.size + 1), ptr w.heap.size]) ∧ w' = ((w.alloc (.cells #[.int .i64 n] 3)).alloc (.cells #[.int .i64 to] 3)).alloc (.cells #[ptr x] 67) := by
  have hmf : ∀ (fn : Fn) (first cap : Array Value) (w : World), (Instr.makeFunc fn first cap).run Try.prog w = .ok (.func fn first cap) w := fun _ _ _ _ => rfl
  go_enter Try.func46, Try.ntmps46
  go_wp2
  go_ret
  exact ⟨rfl, rfl⟩

set_option maxRecDepth 100000 in
theorem take_any (n : Int) (w : World) :
    Calls Try.prog 47 #[.int .i64 n] w fun e w' => e = .returned (.func (.func 58) #[] #[ptr w.heap.size]) ∧ w' = w.alloc (.cells #[.int .i64 n] 3) := by
  have hmf : ∀ (fn : Fn) (first cap : Array Value) (w : World), (Instr.makeFunc fn first cap).run Try.prog w = .ok (.func fn first cap) w := fun _ _ _ _ => rfl
  go_enter Try.func47, Try.ntmps47
  go_wp2
  go_ret
  exact ⟨rfl, rfl⟩

theorem mayF_i64 {n : Int} (h : mayN n = true) : I64 n := by
  simp only [mayN, Bool.and_eq_true, decide_eq_true_eq] at h
  exact ⟨by omega, by omega⟩

/-- What a change makes of a map. -/
def Changed (w : World) (b N : Nat) (ps : Nat → Nat) (g : Int → Option Nat) (c : Ch) (e : Ending) (w' : World) : Prop :=
  e = .returned (.tuple #[]) ∧ MapP w' b (N + 1) (fun n => (chF g c n).map ps) ∧ w.grownBy w' (some b)

theorem wpList_delete_P (w : World) {ops : Array Oper} {rest : List Oper} {o : Oper} {a : Act} {Q : Exit → Act → World → Prop} (hgd : o.guard = none) (m x : Operand)
    (ho : o.op = .call { callee := .builtin .delete, args := #[m, x], argTypes := #[51, 3] })
    (b N : Nat) (f : Int → Option Nat) (p : Int) (hm : a.eval m = .map (some b)) (hx : a.eval x = .int .i64 p) (hown : MapP w b N f) (hp : I64 p)
    (h : ∀ w', MapP w' b N (fun m => if m = p then none else f m) → w.grownBy w' (some b) → wpList Try.prog ops Q rest (a.put o.dst (.tuple #[])) w') : wpList Try.prog ops Q (o :: rest) a w :=
  wpList_plain hgd fun _ hK => by
    obtain ⟨w', hrun, h2, h3⟩ := hown.del hp o.type
    unfold Oper.wp execOp
    simp only [ho, resolve, invoke, builtin, Sem.run_bind, Sem.run_pure, Result.andThen_ok, List.map_toArray, List.map_cons, List.map_nil, hm, hx, hrun]
    exact hK _ _ (h w' h2 h3)

theorem wpList_clear_P (w : World) {ops : Array Oper} {rest : List Oper} {o : Oper} {a : Act} {Q : Exit → Act → World → Prop} (hgd : o.guard = none) (m : Operand)
    (ho : o.op = .call { callee := .builtin .clear, args := #[m], argTypes := #[51] })
    (b N : Nat) (f : Int → Option Nat) (hm : a.eval m = .map (some b)) (hown : MapP w b N f)
    (h : ∀ w', MapP w' b 0 (fun _ => none) → w.grownBy w' (some b) → wpList Try.prog ops Q rest (a.put o.dst (.tuple #[])) w') : wpList Try.prog ops Q (o :: rest) a w :=
  wpList_plain hgd fun _ hK => by
    obtain ⟨w', hrun, h2, h3⟩ := hown.clear o.type
    unfold Oper.wp execOp
    simp only [ho, resolve, invoke, builtin, Sem.run_bind, Sem.run_pure, Result.andThen_ok, List.map_toArray, List.map_cons, List.map_nil, hm, hrun]
    exact hK _ _ (h w' h2 h3)

theorem grownBy_two {a b c : World} {r : Nat} (h : a.grownBy b (some r)) (k : b.grownBy c (some r)) : a.grownBy c (some r) := h.andThen k (fun _ hj => .inr hj)

set_option maxRecDepth 100000 in
theorem giveC_any {n : Int} {f : Nat} (hn : mayN n = true) {b1 b2 b N : Nat} {ps : Nat → Nat} {g : Int → Option Nat} (w : World) (h1 : Bk 3 w b1 #[.int .i64 n]) (h2 : Bk 67 w b2 #[ptr (ps f)]) (hm : MapP w b N (fun n => (g n).map ps)) (hN : N ≤ 10000000) :
    Calls Try.prog 53 #[.map (some b), ptr b2, ptr b1] w fun e w' => Changed w b N ps g (.give n f) e w' := by
  obtain ⟨w1, hrun, hm1, hg1⟩ := hm.put (p := n) (ps f) (mayF_i64 hn) hN
  have HM : Hid (MapP w1 b (N + 1) (fun n' => (chF g (.give n f) n').map ps)) := hide (hm1.fun fun q _ => by
    show (if q = n then some (ps f) else (g q).map ps) = (if q = n then some f else g q).map ps
    split <;> rfl)
  have HG := hide hg1
  obtain ⟨c1, -⟩ := h1.cell 0 rfl
  obtain ⟨c2, -⟩ := h2.cell 0 rfl
  obtain ⟨x, hx⟩ : ∃ x, x = ps f := ⟨_, rfl⟩
  rw [← hx] at hrun c2
  clear hm1 hg1 hm h1 h2 hx hn hN
  go_enter Try.func53, Try.ntmps53
  go_wp2
  go_end0
  exact ⟨rfl, HM.out, HG.out⟩

set_option maxRecDepth 100000 in
theorem moveC_any {n to : Int} {f : Nat} (hn : mayN n = true) (hto : mayN to = true) {b1 b2 b3 b N : Nat} {ps : Nat → Nat} {g : Int → Option Nat} (w : World) (h1 : Bk 3 w b1 #[.int .i64 n]) (h2 : Bk 3 w b2 #[.int .i64 to]) (h3 : Bk 67 w b3 #[ptr (ps f)]) (hm : MapP w b N (fun n => (g n).map ps)) (hN : N ≤ 10000000) :
    Calls Try.prog 57 #[.map (some b), ptr b3, ptr b2, ptr b1] w fun e w' => Changed w b N ps g (.move n to f) e w' := by
  obtain ⟨w1, hrun, hm1, hg1⟩ := hm.put (p := to) (ps f) (mayF_i64 hto) hN
  obtain ⟨c2, -⟩ := h2.cell 0 rfl
  obtain ⟨c3, -⟩ := h3.cell 0 rfl
  obtain ⟨d1, -⟩ := (h1.keep (hg1.block b1 h1.lt (by intro e; exact (h1.neMap hm) (Option.some.inj e)))).cell 0 rfl
  have HM := hide hm1
  have HN := hide hn
  have HC : Hid (∀ w2, MapP w2 b (N + 1) (fun m => if m = n then none else if m = to then some (ps f) else (g m).map ps) → w1.grownBy w2 (some b) → Changed w b N ps g (.move n to f) (.returned (.tuple #[])) w2) := hide (fun w2 hm2 hg2 => by
    refine ⟨rfl, hm2.fun fun q _ => ?_, grownBy_two hg1 hg2⟩
    show (if q = n then none else if q = to then some (ps f) else (g q).map ps) = (if q = n then none else if q = to then some f else g q).map ps
    split
    · rfl
    · split <;> rfl)
  obtain ⟨x, hx⟩ : ∃ x, x = ps f := ⟨_, rfl⟩
  rw [← hx] at hrun c3
  clear hm1 hg1 hm h1 h2 h3 hx hn hto hN
  go_enter Try.func57, Try.ntmps57
  go_wp2_with (first | (at_delete; refine wpList_delete_P _ rfl _ _ rfl b _ _ n rfl rfl HM.out (mayF_i64 HN.out) ?_; intro w2 hm2 hg2))
  go_end0
  exact HC.out _ hm2 hg2

set_option maxRecDepth 100000 in
theorem takeC_any {n : Int} (hn : mayN n = true) {b1 b N : Nat} {ps : Nat → Nat} {g : Int → Option Nat} (w : World) (h1 : Bk 3 w b1 #[.int .i64 n]) (hm : MapP w b N (fun n => (g n).map ps)) :
    Calls Try.prog 58 #[.map (some b), ptr b1] w fun e w' => Changed w b N ps g (.take n) e w' := by
  obtain ⟨c1, -⟩ := h1.cell 0 rfl
  have HM := hide hm
  have HN := hide hn
  clear hm hn h1
  go_enter Try.func58, Try.ntmps58
  go_wp2_with (first | (at_delete; refine wpList_delete_P _ rfl _ _ rfl b _ _ n rfl rfl HM.out (mayF_i64 HN.out) ?_; intro w2 hm2 hg2))
  go_end0
  refine ⟨rfl, (hm2.mono (Nat.le_succ _)).fun fun q _ => ?_, hg2⟩
  show (if q = n then none else (g q).map ps) = (if q = n then none else g q).map ps
  split <;> rfl

theorem info_ch : (Try.prog.info? 73).map (fun i => (i.zero, i.size, i.bytes)) = some (some .nilFunc, 1, 8) := by kernel_rfl

theorem run_append_ch (w : World) (ty : TypeId) (v : Value) (cs : List Value) (h : w.ownsRow 0 73 1 v cs.length cs) (fn : Fn) (c0 c1 : Array Value) (hlim : cs.length ≤ 10000000) :
    ∃ v' w', (Builtin.append_ #[53, 53] ty #[v, .slice (some ⟨w.heap.size, 0, none⟩) 1 1]).run Try.prog (w.alloc (.cells #[.func fn c0 c1] 73)) = .ok v' w' ∧
      w'.ownsRow 0 73 1 v' (cs ++ [Value.func fn c0 c1]).length (cs ++ [Value.func fn c0 c1]) ∧ (w.alloc (.cells #[.func fn c0 c1] 73)).grownBy w' v.ownBlock ∧ (v'.ownBlock = v.ownBlock ∨ v'.ownBlock = some (w.heap.size + 1)) := by
  obtain ⟨i0, hi, hz0, hz1, hz2⟩ := info_parts info_ch
  obtain ⟨v', w', hrun, ho, hg, _, hl⟩ := run_append_own_at (P := Try.prog) (w.alloc (.cells #[.func fn c0 c1] 73)) 0 53 ty 73 i0 .nilFunc 1 8 Try.underlying53 hi hz0 hz1 hz2 rfl (by decide) v cs.length cs (World.ownsRow.alloc h _)
    ⟨w.heap.size, 0, none⟩ 1 1 [.func fn c0 c1] rfl (fun j u hj => by
      match j, hj with
      | 0, hj => simp at hj; subst hj; simp [Addr.add]) (fun u hu => by simp at hu; subst hu; rfl) (by unfold maxLen; omega) (by omega) (Nat.zero_le _)
  refine ⟨v', w', hrun, ?_, hg, ?_⟩
  · rw [List.length_append]
    exact ho
  · rcases hl with hl | hl
    · exact .inl hl
    · exact .inr (by rw [hl]; simp)

theorem wpList_append_ch (w : World) {ops : Array Oper} {rest : List Oper} {o : Oper} {a : Act} {Q : Exit → Act → World → Prop} (hgd : o.guard = none) (s x : Operand)
    (ho : o.op = .call { callee := .builtin .append, args := #[s, x], argTypes := #[53, 53] })
    (v : Value) (cs : List Value) (hs : a.eval s = v) (h : w.ownsRow 0 73 1 v cs.length cs) (fn : Fn) (c0 c1 : Array Value) (hx : a.eval x = .slice (some ⟨w.heap.size, 0, none⟩) 1 1) (hlim : cs.length ≤ 10000000)
    (hK : ∀ v' w', w'.ownsRow 0 73 1 v' (cs ++ [Value.func fn c0 c1]).length (cs ++ [Value.func fn c0 c1]) → (w.alloc (.cells #[.func fn c0 c1] 73)).grownBy w' v.ownBlock → (v'.ownBlock = v.ownBlock ∨ v'.ownBlock = some (w.heap.size + 1)) →
      wpList Try.prog ops Q rest (a.put o.dst v') w') : wpList Try.prog ops Q (o :: rest) a (w.alloc (.cells #[.func fn c0 c1] 73)) :=
  wpList_plain hgd fun _ hK' => by
    obtain ⟨v', w', hrun, h2, h3, h4⟩ := run_append_ch w o.type v cs h fn c0 c1 hlim
    unfold Oper.wp execOp
    simp only [ho, resolve, invoke, builtin, Sem.run_bind, Sem.run_pure, Result.andThen_ok, List.map_toArray, List.map_cons, List.map_nil, hs, hx, hrun]
    exact hK' _ _ (hK v' w' h2 h3 h4)

theorem okCh_move {m : Nat} {c : Ch} (h : okCh m c) : ∀ n to f, c = .move n to f → n ≠ to := by
  rintro n to f rfl
  exact h.2.2.1

theorem dirD_wait (d : Dk) (c : Ch) : dirD { d with waits := d.waits ++ [c] } = chD (dirD d) c := by
  show (d.waits ++ [c]).foldl chD d.kept = _
  rw [List.foldl_append]
  rfl

/-- A change that waits, made. -/
theorem DiskL.addWait {F : Nat → Prop} {w w1 w2 : World} {p : Nat} {L : Lay} {d : Dk} {u : Int} {N : Nat} {c : Ch} {fn : Fn} {c0 c1 : Array Value} {v' : Value} (h : DiskL F w p L d u N) (hc : ChV F w L.ps c (.func fn c0 c1)) (hok : OkD d) (hco : okCh d.files.length c)
    (hg1 : w.grownBy w1 (some L.now)) (hm : MapP w1 L.now (N + 1) (fun n => (chF (look (dirD d)) c n).map L.ps))
    (hrow : w2.ownsRow 0 73 1 v' (L.cs ++ [Value.func fn c0 c1]).length (L.cs ++ [Value.func fn c0 c1])) (hg2 : (w1.alloc (.cells #[.func fn c0 c1] 73)).grownBy w2 L.wv.ownBlock) (hv : v'.ownBlock = L.wv.ownBlock ∨ v'.ownBlock = some (w1.heap.size + 1)) :
    DiskL (Gr F w w2) (w2.setCell ⟨p, 4, none⟩ v') p { L with wv := v', cs := L.cs ++ [Value.func fn c0 c1] } { d with waits := d.waits ++ [c] } u (N + 1) ∧ Only F w (w2.setCell ⟨p, 4, none⟩ v') := by
  have h0 := h.rest
  have hs1 := hg1.size
  have hs2 : w1.heap.size + 1 ≤ w2.heap.size := by have := hg2.size; simpa using this
  have hs3 : (w2.setCell ⟨p, 4, none⟩ v').heap.size = w2.heap.size := by simp
  have hk2 : ∀ k, F k → k ≠ L.now → L.wv.ownBlock ≠ some k → w2.heap[k]? = w.heap[k]? := fun k hf hn hr => by
    have hlt := h.lt k hf
    rw [hg2.block k (by simp; omega) (fun e => hr e.symm), Below.heap_alloc _ _ _ (by omega), hg1.block k hlt (fun e => hn (Option.some.inj e))]
  have hk : ∀ k, F k → k ≠ L.now → L.wv.ownBlock ≠ some k → k ≠ p → (w2.setCell ⟨p, 4, none⟩ v').heap[k]? = w.heap[k]? := fun k hf hn hr hp => by
    rw [Below.heap_setCell _ _ _ _ hp, hk2 k hf hn hr]
  have hwr : ∀ {t : TypeId} {k : Nat} {cs : Array Value}, Bk t w k cs → t ≠ 73 → L.wv.ownBlock ≠ some k := fun hb ht hg => by
    obtain ⟨cs', hb'⟩ := ownBk h0.row hg
    exact (hb.ne hb' ht) rfl
  have hwm : ∀ {k n : Nat} {g : Int → Option Nat}, MapP w k n g → L.wv.ownBlock ≠ some k := fun hm hg => by
    obtain ⟨cs', hb'⟩ := ownBk h0.row hg
    exact (hb'.neMap hm) rfl
  have hbk : ∀ {t : TypeId} {k : Nat} {cs : Array Value}, Bk t w k cs → F k → t ≠ 73 → t ≠ 55 → (w2.setCell ⟨p, 4, none⟩ v').heap[k]? = w.heap[k]? := fun hb hf h1 h2 =>
    hk _ hf (hb.neMap h0.now) (hwr hb h1) (hb.ne h.head h2)
  have hnp : L.now ≠ p := (h.head.neMap h0.now).symm
  have hhead : Bk 55 w2 p (headC L d u) := h.head.keep (hk2 p h.fh hnp.symm (hwr h.head (by decide)))
  have hFn : ∀ g, v'.ownBlock = some g → Gr F w w2 g := fun g hg => by
    rcases hv with hv | hv
    · exact .inl (h0.fw g (by rw [← hv]; exact hg))
    · rw [hv] at hg
      obtain rfl := Option.some.inj hg
      exact .inr ⟨by omega, by have := (World.ownsRow.lt hrow _ hv).2; omega⟩
  refine ⟨⟨hhead.set 4 v', ?_, .inl h.fh, fun k hk => ?_⟩, ?_⟩
  · refine ⟨?_, ?_, ?_, ?_, ?_, ?_, h0.psn, h0.vsn, h0.nk, .inl h0.fn, .inl h0.fk, hFn, fun i hi => .inl (h0.fp i hi), fun i hi g hg => .inl (h0.fv i hi g hg)⟩
    · have e : ∀ n, (look (dirD { d with waits := d.waits ++ [c] }) n).map L.ps = (chF (look (dirD d)) c n).map L.ps := fun n => by rw [dirD_wait, look_chD hok.dir.rise c (okCh_move hco)]
      refine (hm.keep (w' := w2.setCell ⟨p, 4, none⟩ v') ?_).fun fun n _ => (e n).symm
      rw [Below.heap_setCell _ _ _ _ hnp, hg2.block L.now (by simp; have := hm.lt; omega) (fun e => hwm h0.now e.symm), Below.heap_alloc _ _ _ hm.lt]
    · exact (h0.kept.mono (Nat.le_succ N)).keep (hk _ h0.fk (Ne.symm h0.nk) (hwm h0.kept) (h.head.neMap h0.kept).symm)
    · exact ownsRow_keep hrow fun g hg => Below.heap_setCell _ _ _ _ (by
        obtain ⟨cs', hb'⟩ := ownBk hrow hg
        exact hb'.ne hhead (by decide))
    · rw [List.length_append, List.length_append, h0.many]
      rfl
    · intro i c' v hi hv2
      have hkeep : ∀ c v, ChV F w L.ps c v → ChV (Gr F w w2) (w2.setCell ⟨p, 4, none⟩ v') L.ps c v := fun c v hcv => hcv.keep (fun _ hf => .inl hf) (fun _ _ => rfl) fun k cs' hf hb => by
        rcases hb with hb | hb <;> exact hbk hb hf (by decide) (by decide)
      rw [List.getElem?_append] at hi hv2
      rw [h0.many] at hv2
      by_cases hlt : i < d.waits.length
      · rw [if_pos hlt] at hi hv2
        exact hkeep _ _ (h0.wait i c' v hi hv2)
      · rw [if_neg hlt] at hi hv2
        have e0 : i - d.waits.length = 0 := by
          have := (List.getElem?_eq_some_iff.1 hi).1
          simp at this
          omega
        rw [e0] at hi hv2
        simp only [List.getElem?_cons_zero, Option.some.injEq] at hi hv2
        rw [← hi, ← hv2]
        exact hkeep _ _ hc
    · intro i hi
      refine (h0.file i hi).keep (hbk (h0.file i hi).box (h0.fp i hi) (by decide) (by decide)) fun g hg => ?_
      obtain ⟨cs', hb⟩ := ownBk (h0.file i hi).own hg
      exact hbk hb (h0.fv i hi g hg) (by decide) (by decide)
  · rw [hs3]
    exact Gr.lt (by omega) h.lt k hk
  · have o1 : Only F w w1 := Only.ofGrown hg1 fun k e _ => by obtain rfl := Option.some.inj e; exact h0.fn
    have o2 : Only F (w1.alloc (.cells #[.func fn c0 c1] 73)) w2 := Only.ofGrown hg2 fun k e _ => h0.fw k e
    exact ((o1.alloc _).trans o2 (fun _ _ hf => hf)).setCell 4 (fun _ => h.fh) v'

end Go.Proofs.Ytfhgjnfichgdiaa
