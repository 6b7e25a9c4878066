/- The document's disk: a file that grows, one that is cut, one that is new. -/
import Derived.Test.YtfhgjnfichgdiaaRef11I
import Derived.Test.YtfhgjnfichgdiaaFilesI
namespace Go.Proofs.Ytfhgjnfichgdiaa
open Go.RowKit

/-- A file that has grown. -/
theorem RefL.grow {F : Nat → Prop} {w w1 : World} {p : Nat} {L : RLay} {d : Dk} {f : Nat} {v' : Value} {x : List UInt8} (h : RefL F w p L d) (hf : f < d.files.length)
    (ho : Own w1 0 v' ((fl d.files f).b ++ x)) (hg : w.grownBy w1 (L.vs f).ownBlock) (hl : v'.ownBlock = (L.vs f).ownBlock ∨ v'.ownBlock = some w.heap.size) :
    RefL (Gr F w w1) (w1.setCell ⟨L.ps f, 0, none⟩ v') p { L with vs := fun i => if i = f then v' else L.vs i } { d with files := growF d.files f x } ∧ Only F w (w1.setCell ⟨L.ps f, 0, none⟩ v') := by
  have hb := (h.file f hf).box
  have hne : (L.vs f).ownBlock ≠ some (L.ps f) := fun e => by
    obtain ⟨cs', hb'⟩ := ownBkS (h.file f hf).own e
    exact (hb.ne hb' (by decide)) rfl
  have hb1 : Bk 64 w1 (L.ps f) #[L.vs f, .int .i64 ((fl d.files f).k : Int)] := hb.keep (hg.block _ hb.lt (fun e => hne e.symm))
  have hs : (w1.setCell ⟨L.ps f, 0, none⟩ v').heap.size = w1.heap.size := by simp
  refine ⟨h.setFile (F' := Gr F w w1) hf (fun k hk h1 h2 => ?_) ⟨hb1.set 0 v', ?_⟩ ?_ (fun _ hk => .inl hk) (fun g hg' => ?_) (fun k hk => by rw [hs]; exact Gr.lt hg.size h.lt k hk), ?_⟩
  · rw [Below.heap_setCell _ _ _ _ h1, hg.block k (h.lt k hk) (fun e => h2 e.symm)]
  · refine ownsRow_keep ho fun g hg' => Below.heap_setCell _ _ _ _ ?_
    obtain ⟨cs', hb'⟩ := ownBkS ho hg'
    exact hb'.ne hb1 (by decide)
  · rcases hl with hl | hl
    · exact .inl hl
    · exact .inr fun g hg' => by rw [hl] at hg'; exact Nat.le_of_eq (Option.some.inj hg')
  · rcases hl with hl | hl
    · exact .inl (h.fb f hf g (by rw [← hl]; exact hg'))
    · have h3 := (World.ownsRow.lt ho g hg').2
      rw [hl] at hg'
      obtain rfl := Option.some.inj hg'
      exact .inr ⟨Nat.le_refl _, h3⟩
  · exact (Only.ofGrown hg fun k e _ => h.fb f hf k e).setCell 0 (fun _ => h.fp f hf) v'

/-- A file that is cut. -/
theorem RefL.cutFile {F : Nat → Prop} {w : World} {p : Nat} {L : RLay} {d : Dk} {f k : Nat} {ao : Option Addr} {cap : Nat} (h : RefL F w p L d) (hf : f < d.files.length) (hv : L.vs f = .slice ao (fl d.files f).b.length cap) (hk : k ≤ (fl d.files f).b.length) :
    RefL F ((w.setCell ⟨L.ps f, 0, none⟩ (.slice ao k cap)).setCell ⟨L.ps f, 1, none⟩ (.int .i64 (k : Int))) p { L with vs := fun i => if i = f then .slice ao k cap else L.vs i } { d with files := d.files.set f ⟨(fl d.files f).b.take k, k⟩ } := by
  have hx := h.file f hf
  have hne : ∀ g, (L.vs f).ownBlock = some g → g ≠ L.ps f := fun g hg => by
    obtain ⟨cs', hb'⟩ := ownBkS hx.own hg
    exact hb'.ne hx.box (by decide)
  have e1 : (Value.slice ao k cap).ownBlock = (L.vs f).ownBlock := by rw [hv]; cases ao <;> rfl
  have ho : Own w 0 (.slice ao k cap) ((fl d.files f).b.take k) := by
    have := hx.own
    rw [hv] at this
    exact this.front k hk
  refine h.setFile (F' := F) hf (fun j _ h1 _ => by rw [Below.heap_setCell _ _ _ _ h1, Below.heap_setCell _ _ _ _ h1]) ⟨(hx.box.set 0 _).set 1 _, ownsRow_keep ho fun g hg => ?_⟩ (.inl e1) (fun _ hj => hj) (fun g hg => h.fb f hf g (by rw [← e1]; exact hg)) (fun j hj => by simpa using h.lt j hj)
  have := hne g (by rw [← e1]; exact hg)
  rw [Below.heap_setCell _ _ _ _ this, Below.heap_setCell _ _ _ _ this]

theorem info_rp : (Try.prog.info? 65).map (fun i => (i.zero, i.size, i.bytes)) = some (some (.pointer none), 1, 8) := by kernel_rfl

theorem run_append_rp (w : World) (ty : TypeId) (v : Value) (cs : List Value) (h : w.ownsRow 0 65 1 v cs.length cs) (x : Nat) (hlim : cs.length ≤ 10000000) :
    ∃ v' w', (Builtin.append_ #[39, 39] ty #[v, .slice (some ⟨w.heap.size, 0, none⟩) 1 1]).run Try.prog (w.alloc (.cells #[ptr x] 65)) = .ok v' w' ∧
      w'.ownsRow 0 65 1 v' (cs ++ [ptr x]).length (cs ++ [ptr x]) ∧ (w.alloc (.cells #[ptr x] 65)).grownBy w' v.ownBlock ∧ (v'.ownBlock = v.ownBlock ∨ v'.ownBlock = some (w.heap.size + 1)) := by
  obtain ⟨i0, hi, hz0, hz1, hz2⟩ := info_parts info_rp
  obtain ⟨v', w', hrun, ho, hg, _, hl⟩ := run_append_own_at (P := Try.prog) (w.alloc (.cells #[ptr x] 65)) 0 39 ty 65 i0 (.pointer none) 1 8 Try.underlying39 hi hz0 hz1 hz2 rfl (by decide) v cs.length cs (World.ownsRow.alloc h _)
    ⟨w.heap.size, 0, none⟩ 1 1 [ptr x] rfl (fun j u hj => by
      match j, hj with
      | 0, hj => simp at hj; subst hj; simp [Addr.add]) (fun u hu => by simp at hu; subst hu; rfl) (by unfold maxLen; omega) (by omega) (Nat.zero_le _)
  refine ⟨v', w', hrun, ?_, hg, ?_⟩
  · rw [List.length_append]
    exact ho
  · rcases hl with hl | hl
    · exact .inl hl
    · exact .inr (by rw [hl]; simp)

theorem wpList_append_rp (w : World) {ops : Array Oper} {rest : List Oper} {o : Oper} {a : Act} {Q : Exit → Act → World → Prop} (hgd : o.guard = none) (s x : Operand)
    (ho : o.op = .call { callee := .builtin .append, args := #[s, x], argTypes := #[39, 39] })
    (v : Value) (cs : List Value) (hs : a.eval s = v) (h : w.ownsRow 0 65 1 v cs.length cs) (y : Nat) (hx : a.eval x = .slice (some ⟨w.heap.size, 0, none⟩) 1 1) (hlim : cs.length ≤ 10000000)
    (hK : ∀ v' w', w'.ownsRow 0 65 1 v' (cs ++ [ptr y]).length (cs ++ [ptr y]) → (w.alloc (.cells #[ptr y] 65)).grownBy w' v.ownBlock → (v'.ownBlock = v.ownBlock ∨ v'.ownBlock = some (w.heap.size + 1)) →
      wpList Try.prog ops Q rest (a.put o.dst v') w') : wpList Try.prog ops Q (o :: rest) a (w.alloc (.cells #[ptr y] 65)) :=
  wpList_plain hgd fun _ hK' => by
    obtain ⟨v', w', hrun, h2, h3, h4⟩ := run_append_rp w o.type v cs h y hlim
    unfold Oper.wp execOp
    simp only [ho, resolve, invoke, builtin, Sem.run_bind, Sem.run_pure, Result.andThen_ok, List.map_toArray, List.map_cons, List.map_nil, hs, hx, hrun]
    exact hK' _ _ (hK v' w' h2 h3 h4)

theorem ptrCells_more (ps : Nat → Nat) (n x : Nat) : ptrCells (fun i => if i = n then x else ps i) (n + 1) = ptrCells ps n ++ [ptr x] := by
  unfold ptrCells
  rw [List.range_succ, List.map_append]
  congr 1
  · refine List.map_congr_left fun i hi => ?_
    have := List.mem_range.1 hi
    show ptr (if i = n then x else ps i) = ptr (ps i)
    rw [if_neg (by omega)]
  · simp

theorem ptrCells_length (ps : Nat → Nat) (n : Nat) : (ptrCells ps n).length = n := by simp [ptrCells]

/-- One more file, in the box x that is new. -/
theorem RefL.addFile {F : Nat → Prop} {w w0 w2 : World} {p : Nat} {L : RLay} {d : Dk} {v' : Value} (h : RefL F w p L d) (hw0 : w0 = w.alloc (.cells #[.slice none 0 0, .int .i64 0] 64))
    (hrow : w2.ownsRow 0 65 1 v' (ptrCells L.ps d.files.length ++ [ptr w.heap.size]).length (ptrCells L.ps d.files.length ++ [ptr w.heap.size])) (hg : (w0.alloc (.cells #[ptr w.heap.size] 65)).grownBy w2 L.fv.ownBlock) (hv : v'.ownBlock = L.fv.ownBlock ∨ v'.ownBlock = some (w0.heap.size + 1)) :
    RefL (Gr F w w2) (w2.setCell ⟨p, 1, none⟩ v') p { L with fv := v', ps := fun i => if i = d.files.length then w.heap.size else L.ps i, vs := fun i => if i = d.files.length then .slice none 0 0 else L.vs i } { d with files := d.files ++ [⟨[], 0⟩] } ∧ Only F w (w2.setCell ⟨p, 1, none⟩ v') ∧ w2.cell? ⟨p, 1, none⟩ = some L.fv ∧ w2.frozen? ⟨p, 1, none⟩ = false := by
  have hs0 : w0.heap.size = w.heap.size + 1 := by rw [hw0]; simp
  have hs : w.heap.size + 1 + 1 ≤ w2.heap.size := by have := hg.size; simp at this; omega
  have hk0 : ∀ k, k < w0.heap.size → L.fv.ownBlock ≠ some k → w2.heap[k]? = w0.heap[k]? := fun k hlt hr => by
    rw [hg.block k (by simp; omega) (fun e => hr e.symm), Below.heap_alloc _ _ _ hlt]
  have hk2 : ∀ k, F k → L.fv.ownBlock ≠ some k → w2.heap[k]? = w.heap[k]? := fun k hf hr => by
    have hlt := h.lt k hf
    rw [hk0 k (by omega) hr, hw0, Below.heap_alloc _ _ _ hlt]
  have hwr : ∀ {t : TypeId} {k : Nat} {cs : Array Value}, Bk t w k cs → t ≠ 65 → L.fv.ownBlock ≠ some k := fun hb ht hg => by
    obtain ⟨cs', hb'⟩ := ownBkS h.files hg
    exact (hb.ne hb' ht) rfl
  have hhead : Bk 42 w2 p (rheadC L d.room) := h.head.keep (hk2 p h.fh (hwr h.head (by decide)))
  have hp : p < w.heap.size := h.lt p h.fh
  have hnew : Bk 64 (w2.setCell ⟨p, 1, none⟩ v') w.heap.size #[.slice none 0 0, .int .i64 0] := by
    have h1 : Bk 64 w0 w.heap.size #[.slice none 0 0, .int .i64 0] := by rw [hw0]; exact heap_alloc_new w _
    refine h1.keep ?_
    rw [Below.heap_setCell _ _ _ _ (show w.heap.size ≠ p by omega), hk0 _ (by omega) (fun e => by have := h.lt _ (h.ff _ e); omega)]
  have hbk : ∀ {t : TypeId} {k : Nat} {cs : Array Value}, Bk t w k cs → F k → t ≠ 65 → t ≠ 42 → (w2.setCell ⟨p, 1, none⟩ v').heap[k]? = w.heap[k]? := fun hb hf h1 h2 => by
    rw [Below.heap_setCell _ _ _ _ (hb.ne h.head h2), hk2 _ hf (hwr hb h1)]
  have hrw : ∀ {t : TypeId} {s n g : Nat} {v : Value} {xs : List Value}, w.ownsRow 0 t s v n xs → v.ownBlock = some g → F g → t ≠ 65 → t ≠ 42 → (w2.setCell ⟨p, 1, none⟩ v').heap[g]? = w.heap[g]? := fun hr hg hf h1 h2 => by
    obtain ⟨cs', hb'⟩ := ownBkS hr hg
    exact hbk hb' hf h1 h2
  have hlen : (d.files ++ [(⟨[], 0⟩ : Fl)]).length = d.files.length + 1 := by simp
  refine ⟨⟨hhead.set 1 v', ?_, ownsRow_keep h.kept fun g hg => hrw h.kept hg (h.fk g hg) (by decide) (by decide), ownsRow_keep h.waits fun g hg => hrw h.waits hg (h.fw g hg) (by decide) (by decide), fun i hi => ?_, fun i j hi hj hij => ?_, fun i j hi hj hij g => ?_, .inl h.fh, fun g hg => ?_, fun g hg => .inl (h.fk g hg), fun g hg => .inl (h.fw g hg), fun i hi => ?_, fun i hi g => ?_, fun k hk => ?_⟩, ?_, (hhead.cell 1 rfl).1, (hhead.cell 1 rfl).2⟩
  · show (w2.setCell ⟨p, 1, none⟩ v').ownsRow 0 _ 1 v' (d.files ++ [(⟨[], 0⟩ : Fl)]).length (ptrCells _ (d.files ++ [(⟨[], 0⟩ : Fl)]).length)
    rw [hlen, ptrCells_more]
    rw [List.length_append, ptrCells_length] at hrow
    exact ownsRow_keep hrow fun g hg => Below.heap_setCell _ _ _ _ (by
      obtain ⟨cs', hb'⟩ := ownBkS hrow hg
      exact hb'.ne hhead (by decide))
  · have hi2 : i < (d.files ++ [(⟨[], 0⟩ : Fl)]).length := hi
    show RFileV _ (if i = d.files.length then w.heap.size else L.ps i) (if i = d.files.length then .slice none 0 0 else L.vs i) (fl (d.files ++ [⟨[], 0⟩]) i)
    by_cases e : i = d.files.length
    · rw [if_pos e, if_pos e, e, fl_last]
      exact ⟨hnew, World.ownsRow_nil _ _ _ _⟩
    · have hi' : i < d.files.length := by omega
      rw [if_neg e, if_neg e, fl_append hi']
      exact (h.file i hi').keep (hbk (h.file i hi').box (h.fp i hi') (by decide) (by decide)) fun g hg => hrw (h.file i hi').own hg (h.fb i hi' g hg) (by decide) (by decide)
  · have hi2 : i < (d.files ++ [(⟨[], 0⟩ : Fl)]).length := hi
    have hj2 : j < (d.files ++ [(⟨[], 0⟩ : Fl)]).length := hj
    show (if i = d.files.length then w.heap.size else L.ps i) ≠ (if j = d.files.length then w.heap.size else L.ps j)
    have hold : ∀ i, i < d.files.length → L.ps i < w.heap.size := fun i hi => h.lt _ (h.fp i hi)
    by_cases e1 : i = d.files.length
    · rw [if_pos e1, if_neg (by omega)]
      have := hold j (by omega)
      omega
    · rw [if_neg e1]
      by_cases e2 : j = d.files.length
      · rw [if_pos e2]
        have := hold i (by omega)
        omega
      · rw [if_neg e2]
        exact h.psn i j (by omega) (by omega) hij
  · have hi2 : i < (d.files ++ [(⟨[], 0⟩ : Fl)]).length := hi
    have hj2 : j < (d.files ++ [(⟨[], 0⟩ : Fl)]).length := hj
    show (if i = d.files.length then Value.slice none 0 0 else L.vs i).ownBlock = some g → (if j = d.files.length then Value.slice none 0 0 else L.vs j).ownBlock ≠ some g
    by_cases e1 : i = d.files.length
    · rw [if_pos e1]
      intro hg
      cases hg
    · rw [if_neg e1]
      by_cases e2 : j = d.files.length
      · rw [if_pos e2]
        intro _ hg
        cases hg
      · rw [if_neg e2]
        exact h.vsn i j (by omega) (by omega) hij g
  · rcases hv with hv | hv
    · exact .inl (h.ff g (by rw [← hv]; exact hg))
    · have hg' : v'.ownBlock = some g := hg
      rw [hv] at hg'
      obtain rfl := Option.some.inj hg'
      exact .inr ⟨by omega, by have := (World.ownsRow.lt hrow _ hv).2; omega⟩
  · have hi2 : i < (d.files ++ [(⟨[], 0⟩ : Fl)]).length := hi
    show Gr F w w2 (if i = d.files.length then w.heap.size else L.ps i)
    by_cases e : i = d.files.length
    · rw [if_pos e]
      exact .inr ⟨Nat.le_refl _, by omega⟩
    · rw [if_neg e]
      exact .inl (h.fp i (by omega))
  · have hi2 : i < (d.files ++ [(⟨[], 0⟩ : Fl)]).length := hi
    show (if i = d.files.length then Value.slice none 0 0 else L.vs i).ownBlock = some g → Gr F w w2 g
    by_cases e : i = d.files.length
    · rw [if_pos e]
      intro hg
      cases hg
    · rw [if_neg e]
      exact fun hg => .inl (h.fb i (by omega) g hg)
  · have := Gr.lt (by omega) h.lt k hk
    simpa using this
  · have o2 : Only F (w0.alloc (.cells #[ptr w.heap.size] 65)) w2 := Only.ofGrown hg fun k e _ => h.ff k e
    have o1 : Only F w w0 := by rw [hw0]; exact (Only.refl F w).alloc _
    exact ((o1.alloc _).trans o2 (fun _ _ hf => hf)).setCell 1 (fun _ => h.fh) v'

end Go.Proofs.Ytfhgjnfichgdiaa
