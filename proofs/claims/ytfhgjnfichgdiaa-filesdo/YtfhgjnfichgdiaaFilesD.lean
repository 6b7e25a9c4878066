/- Contracts of the landed files: a file that grows, one that is new; Append. -/
import Derived.Test.YtfhgjnfichgdiaaFilesC
import Derived.Test.YtfhgjnfichgdiaaFilesSum
namespace Go.Proofs.Ytfhgjnfichgdiaa
open Go.RowKit

theorem DiskL.widen {F F' : Nat → Prop} {w : World} {p : Nat} {L : Lay} {d : Dk} {u : Int} {N : Nat} (h : DiskL F w p L d u N) (hF : ∀ k, F k → F' k) (hlt : ∀ k, F' k → k < w.heap.size) : DiskL F' w p L d u N :=
  ⟨h.head, ⟨h.rest.now, h.rest.kept, h.rest.row, h.rest.many, fun i c v h1 h2 => (h.rest.wait i c v h1 h2).keep hF (fun _ _ => rfl) (fun _ _ _ _ => rfl), h.rest.file, h.rest.psn, h.rest.vsn, h.rest.nk, hF _ h.rest.fn, hF _ h.rest.fk, fun g hg => hF g (h.rest.fw g hg), fun i hi => hF _ (h.rest.fp i hi), fun i hi g hg => hF g (h.rest.fv i hi g hg)⟩, hF _ h.fh, hlt⟩

/-- New blocks are the disk's. -/
theorem DiskL.more {F : Nat → Prop} {w w' : World} {p : Nat} {L : Lay} {d : Dk} {u : Int} {N : Nat} (h : DiskL F w p L d u N) (hb : Below w.heap.size w w') : DiskL (Gr F w w') w' p L d u N :=
  (h.keep (fun k hf => hb.block k (h.lt k hf)) hb.size).widen (fun _ hf => .inl hf) (Gr.lt hb.size h.lt)

theorem chOf_lt {m : Nat} {c : Ch} (h : okCh m c) {f : Nat} (e : chOf c = some f) : f < m := by
  cases c with
  | give n g => obtain rfl := Option.some.inj e; exact h.2
  | move n g x => obtain rfl := Option.some.inj e; exact h.2.2.2
  | take n => cases e

/-- A file that is new. -/
theorem DiskL.addFile {F : Nat → Prop} {w : World} {p : Nat} {L : Lay} {d : Dk} {u : Int} {N : Nat} (h : DiskL F w p L d u N) (hok : OkD d) :
    DiskL (Gr F w (w.alloc (.cells #[.slice none 0 0, .int .i64 0] 70))) (w.alloc (.cells #[.slice none 0 0, .int .i64 0] 70)) p { L with ps := fun i => if i = d.files.length then w.heap.size else L.ps i, vs := fun i => if i = d.files.length then .slice none 0 0 else L.vs i } { d with files := d.files ++ [⟨[], 0⟩] } u N := by
  have hb : Below w.heap.size w (w.alloc (.cells #[.slice none 0 0, .int .i64 0] 70)) := (Below.refl _ w).alloc (Nat.le_refl _) _
  have hnew : Bk 70 (w.alloc (.cells #[.slice none 0 0, .int .i64 0] 70)) w.heap.size #[.slice none 0 0, .int .i64 0] := heap_alloc_new w _
  have hs : (w.alloc (.cells #[.slice none 0 0, .int .i64 0] 70)).heap.size = w.heap.size + 1 := by simp
  obtain ⟨W, hW⟩ : ∃ W, W = w.alloc (.cells #[.slice none 0 0, .int .i64 0] 70) := ⟨_, rfl⟩
  rw [← hW] at hb hnew hs ⊢
  have h1 := h.more hb
  have h0 := h1.rest
  have hlen : (d.files ++ [(⟨[], 0⟩ : Fl)]).length = d.files.length + 1 := by simp
  refine ⟨h1.head, ⟨?_, ?_, h0.row, h0.many, ?_, ?_, ?_, ?_, h0.nk, h0.fn, h0.fk, h0.fw, ?_, ?_⟩, h1.fh, h1.lt⟩
  · refine h0.now.fun fun n _ => ?_
    show (look (dirD d) n).map L.ps = (look (dirD d) n).map _
    cases e : look (dirD d) n with
    | none => rfl
    | some f =>
      have := (hok.dir.mayOf e).2
      show some (L.ps f) = some (if f = d.files.length then w.heap.size else L.ps f)
      rw [if_neg (by omega)]
  · refine h0.kept.fun fun n _ => ?_
    show (look d.kept n).map L.ps = (look d.kept n).map _
    cases e : look d.kept n with
    | none => rfl
    | some f =>
      have := (hok.kept.mayOf e).2
      show some (L.ps f) = some (if f = d.files.length then w.heap.size else L.ps f)
      rw [if_neg (by omega)]
  · intro i c v hi hv
    refine (h0.wait i c v hi hv).keep (fun _ hf => hf) (fun f hf => ?_) (fun _ _ _ _ => rfl)
    have := chOf_lt (hok.chs c (List.mem_of_getElem? hi)) hf
    show (if f = d.files.length then w.heap.size else L.ps f) = L.ps f
    rw [if_neg (by omega)]
  · intro i hi
    show FileV W (if i = d.files.length then w.heap.size else L.ps i) (if i = d.files.length then .slice none 0 0 else L.vs i) (fl (d.files ++ [⟨[], 0⟩]) i)
    by_cases e : i = d.files.length
    · rw [if_pos e, if_pos e, e, fl_last]
      exact ⟨hnew, World.ownsRow_nil _ _ _ _⟩
    · have hi' : i < d.files.length := by have : i < (d.files ++ [(⟨[], 0⟩ : Fl)]).length := hi; omega
      rw [if_neg e, if_neg e, fl_append hi']
      exact h0.file i hi'
  · intro i j hi hj hij
    have hi2 : i < (d.files ++ [(⟨[], 0⟩ : Fl)]).length := hi
    have hj2 : j < (d.files ++ [(⟨[], 0⟩ : Fl)]).length := hj
    show (if i = d.files.length then w.heap.size else L.ps i) ≠ (if j = d.files.length then w.heap.size else L.ps j)
    have hold : ∀ i, i < d.files.length → L.ps i < w.heap.size := fun i hi => h.lt _ (h.rest.fp i hi)
    by_cases e1 : i = d.files.length
    · rw [if_pos e1, if_neg (by omega)]
      have := hold j (by omega)
      omega
    · rw [if_neg e1]
      by_cases e2 : j = d.files.length
      · rw [if_pos e2]
        have := hold i (by omega)
        omega
      · rw [if_neg e2]
        exact h0.psn i j (by show i < d.files.length; omega) (by show j < d.files.length; omega) hij
  · intro i j hi hj hij g
    have hi2 : i < (d.files ++ [(⟨[], 0⟩ : Fl)]).length := hi
    have hj2 : j < (d.files ++ [(⟨[], 0⟩ : Fl)]).length := hj
    show (if i = d.files.length then Value.slice none 0 0 else L.vs i).ownBlock = some g → (if j = d.files.length then Value.slice none 0 0 else L.vs j).ownBlock ≠ some g
    by_cases e1 : i = d.files.length
    · rw [if_pos e1]
      intro hg
      cases hg
    · rw [if_neg e1]
      by_cases e2 : j = d.files.length
      · rw [if_pos e2]
        intro _ hg
        cases hg
      · rw [if_neg e2]
        exact h0.vsn i j (by show i < d.files.length; omega) (by show j < d.files.length; omega) hij g
  · intro i hi
    have hi2 : i < (d.files ++ [(⟨[], 0⟩ : Fl)]).length := hi
    show Gr F w W (if i = d.files.length then w.heap.size else L.ps i)
    by_cases e : i = d.files.length
    · rw [if_pos e]
      exact .inr ⟨Nat.le_refl _, by omega⟩
    · rw [if_neg e]
      exact h0.fp i (by show i < d.files.length; omega)
  · intro i hi g
    have hi2 : i < (d.files ++ [(⟨[], 0⟩ : Fl)]).length := hi
    show (if i = d.files.length then Value.slice none 0 0 else L.vs i).ownBlock = some g → Gr F w W g
    by_cases e : i = d.files.length
    · rw [if_pos e]
      intro hg
      cases hg
    · rw [if_neg e]
      exact h0.fv i (by show i < d.files.length; omega) g

/-- append of bytes onto bytes of one's own, telling where they lie then. -/
theorem run_append_rdl (w : World) (ty : TypeId) (v : Value) (l0 : List UInt8) (hown : Own w 0 v l0) (vx : Value) (l : List UInt8) (hr : Rd w vx l)
    (hlim : l0.length + l.length ≤ 70368744177664) :
    ∃ v' w', (Builtin.append_ #[30, 30] ty #[v, vx]).run Try.prog w = .ok v' w' ∧ Own w' 0 v' (l0 ++ l) ∧ w.grownBy w' v.ownBlock ∧ (v'.ownBlock = v.ownBlock ∨ v'.ownBlock = some w.heap.size) := by
  obtain ⟨i0, hi, hz0, hz1, hz2⟩ := info_parts info8
  obtain ⟨ao, cap, rfl, hlc, hcm, hn0, hao⟩ := hr
  cases ao with
  | none =>
    have hc := hn0 rfl
    subst hc
    have hl : l = [] := List.eq_nil_of_length_eq_zero (by omega)
    subst hl
    have hrun := run_append_owned_none (P := Try.prog) w 0 30 ty 5 i0 1 Try.underlying30 hi v l0.length (Lib.byteCells l0) hown
    exact ⟨v, w, hrun, by rw [List.append_nil]; exact hown, ⟨rfl, rfl, rfl, Nat.le_refl _, fun _ _ _ => rfl⟩, .inl rfl⟩
  | some a =>
    obtain ⟨v', w', hrun, ho, hg, _, hl⟩ := run_append_own_at (P := Try.prog) w 0 30 ty 5 i0 (.int .u8 0) 1 1 Try.underlying30 hi hz0 hz1 hz2 rfl (by decide) v l0.length (Lib.byteCells l0) hown a l.length cap (Lib.byteCells l)
      (by rw [byteCells_length, Nat.mul_one]) (Rd.cells hao a rfl) (byteCells_one l) (by unfold maxLen; omega) (by omega) (Nat.zero_le _)
    exact ⟨v', w', hrun, Own.mk' ho (by simp) (by simp [Lib.byteCells]), hg, hl⟩

theorem wpList_append_rdl (w : World) {ops : Array Oper} {rest : List Oper} {o : Oper} {a : Act} {Q : Exit → Act → World → Prop} (hgd : o.guard = none) (s x : Operand)
    (ho : o.op = .call { callee := .builtin .append, args := #[s, x], argTypes := #[30, 30] })
    (v : Value) (l0 : List UInt8) (hs : a.eval s = v) (hown : Own w 0 v l0) (vx : Value) (l : List UInt8) (hx : a.eval x = vx) (hr : Rd w vx l)
    (hlim : l0.length + l.length ≤ 70368744177664)
    (h : ∀ v' w', Own w' 0 v' (l0 ++ l) → w.grownBy w' v.ownBlock → (v'.ownBlock = v.ownBlock ∨ v'.ownBlock = some w.heap.size) → wpList Try.prog ops Q rest (a.put o.dst v') w') : wpList Try.prog ops Q (o :: rest) a w :=
  wpList_plain hgd fun _ hK => by
    obtain ⟨v', w', hrun, h2, h3, h4⟩ := run_append_rdl w o.type v l0 hown vx l hr hlim
    unfold Oper.wp execOp
    simp only [ho, resolve, invoke, builtin, Sem.run_bind, Sem.run_pure, Result.andThen_ok, List.map_toArray, List.map_cons, List.map_nil, hs, hx, hrun]
    exact hK _ _ (h v' w' h2 h3 h4)

/-- A file that has grown. -/
theorem DiskL.grow {F : Nat → Prop} {w w1 : World} {p : Nat} {L : Lay} {d : Dk} {u : Int} {N f : Nat} {v' : Value} {x : List UInt8} (h : DiskL F w p L d u N) (hf : f < d.files.length)
    (ho : Own w1 0 v' ((fl d.files f).b ++ x)) (hg : w.grownBy w1 (L.vs f).ownBlock) (hl : v'.ownBlock = (L.vs f).ownBlock ∨ v'.ownBlock = some w.heap.size) :
    DiskL (Gr F w w1) (w1.setCell ⟨L.ps f, 0, none⟩ v') p { L with vs := fun i => if i = f then v' else L.vs i } { d with files := growF d.files f x } u N ∧ Only F w (w1.setCell ⟨L.ps f, 0, none⟩ v') := by
  have h0 := h.rest
  have hb := (h0.file f hf).box
  have hne : (L.vs f).ownBlock ≠ some (L.ps f) := fun e => by
    obtain ⟨cs', hb'⟩ := ownBk (h0.file f hf).own e
    exact (hb.ne hb' (by decide)) rfl
  have hb1 : Bk 70 w1 (L.ps f) #[L.vs f, .int .i64 ((fl d.files f).k : Int)] := hb.keep (hg.block _ hb.lt (fun e => hne e.symm))
  have hs : (w1.setCell ⟨L.ps f, 0, none⟩ v').heap.size = w1.heap.size := by simp
  refine ⟨h.setFile (F' := Gr F w w1) hf (fun k hk h1 h2 => ?_) ⟨hb1.set 0 v', ?_⟩ ?_ (fun _ hk => .inl hk) (fun g hg' => ?_) (fun k hk => by rw [hs]; exact Gr.lt hg.size h.lt k hk), ?_⟩
  · rw [Below.heap_setCell _ _ _ _ h1, hg.block k (h.lt k hk) (fun e => h2 e.symm)]
  · refine ownsRow_keep ho fun g hg' => Below.heap_setCell _ _ _ _ ?_
    obtain ⟨cs', hb'⟩ := ownBk ho hg'
    exact hb'.ne hb1 (by decide)
  · rcases hl with hl | hl
    · exact .inl hl
    · exact .inr fun g hg' => by rw [hl] at hg'; exact Nat.le_of_eq (Option.some.inj hg')
  · rcases hl with hl | hl
    · exact .inl (h0.fv f hf g (by rw [← hl]; exact hg'))
    · have h3 := (World.ownsRow.lt ho g hg').2
      rw [hl] at hg'
      obtain rfl := Option.some.inj hg'
      exact .inr ⟨Nat.le_refl _, h3⟩
  · exact (Only.ofGrown hg fun k e _ => h0.fv f hf k e).setCell 0 (fun _ => h0.fp f hf) v'

theorem Bnd.grow {d : Dk} {N T : Nat} (h : Bnd d N T) (f : Nat) (b : List UInt8) (q : Int) : Bnd { d with files := growF d.files f b, power := q } (N + 1) (T + b.length) := by
  refine ⟨by show (growF d.files f b).length ≤ _; have := h.files; simp [growF]; omega, by have := h.names; show d.kept.length + d.waits.length ≤ _; omega, fun x hx => ?_⟩
  rcases List.mem_or_eq_of_mem_set hx with hx | rfl
  · have := h.bytes x hx; omega
  · simp only [List.length_append]
    by_cases hf : f < d.files.length
    · have := h.bytes _ (mem_fl hf); omega
    · unfold fl
      rw [List.getD, List.getElem?_eq_none (by omega)]
      simp only [Option.getD_none, List.length_nil]
      omega

theorem Bnd.fresh {d : Dk} {N T : Nat} (h : Bnd d N T) (n : Int) : Bnd (freshD d n) (N + 1) T := by
  refine ⟨by show (d.files ++ [_]).length ≤ _; have := h.files; simp; omega, by have := h.names; show d.kept.length + (d.waits ++ [_]).length ≤ _; simp; omega, fun x hx => ?_⟩
  rcases List.mem_append.1 hx with hx | hx
  · exact h.bytes x hx
  · rw [List.mem_singleton.1 hx]
    exact Nat.zero_le _

end Go.Proofs.Ytfhgjnfichgdiaa
