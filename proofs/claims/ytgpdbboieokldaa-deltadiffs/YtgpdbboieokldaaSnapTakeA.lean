/- Contract of snapshot: Note. -/
import Derived.Test.YtgpdbboieokldaaSnapInsG
import Derived.Test.YtgpdbboieokldaaRef06A
namespace Go.Proofs.Ytgpdbboieokldaa
open Go.RowKit

set_option maxRecDepth 100000 in
set_option maxHeartbeats 1000000 in
theorem note1_any (r : Rec) (R : Nat) (e : Ent) (W : World) (hb : Br W R (recC r)) :
    Calls Try.prog 84 #[entV e, .pointer (some ⟨R, 0, none⟩)] W fun x w' => x = .returned (.bool (decide (e.proc = r.proc))) ∧ Below W.heap.size W w' := by
  have HB0 : Hid (∀ X, Below W.heap.size W (W.alloc X)) := fun X => (Below.refl _ _).alloc (Nat.le_refl _) X
  have hlt : R < W.heap.size := (Array.getElem?_eq_some_iff.1 hb).1
  have HC : Hid (∀ X, (W.alloc X).cell? ⟨R, 1, none⟩ = some (.int .i64 r.proc)) := hide (fun X => by
    rw [(HB0.out X).cell (p := ⟨R, 1, none⟩) hlt]
    exact cell_of_row W R 1 _ _ _ hb)
  obtain ⟨ep, es, er⟩ := e
  unfold entV
  simp only
  have hc := HC.out
  generalize r.proc = rp at *
  clear hb HC
  by_cases h : ep = rp
  · have HE : Hid (decide (ep = rp) = true) := decide_eq_true h
    have h' : (ep == rp) = true := beq_iff_eq.2 h
    rw [HE.out]
    clear HE h
    go_enter Try.func84, Try.ntmps84
    go_wp2
    go_ret
    exact ⟨rfl, HB0.out _⟩
  · have HE : Hid (decide (ep = rp) = false) := decide_eq_false h
    have h' : (ep == rp) = false := beq_eq_false_iff_ne.2 h
    rw [HE.out]
    clear HE h
    go_enter Try.func84, Try.ntmps84
    go_wp2
    go_ret
    exact ⟨rfl, HB0.out _⟩

set_option maxRecDepth 100000 in
set_option maxHeartbeats 1000000 in
theorem note2_any (r : Rec) (R : Nat) (e : Ent) (W : World) (hb : Br W R (recC r)) :
    Calls Try.prog 85 #[entV e, .pointer (some ⟨R, 0, none⟩)] W fun x w' => x = .returned (.bool (decide (r.proc < e.proc))) ∧ Below W.heap.size W w' := by
  have HB0 : Hid (∀ X, Below W.heap.size W (W.alloc X)) := fun X => (Below.refl _ _).alloc (Nat.le_refl _) X
  have hlt : R < W.heap.size := (Array.getElem?_eq_some_iff.1 hb).1
  have HC : Hid (∀ X, (W.alloc X).cell? ⟨R, 1, none⟩ = some (.int .i64 r.proc)) := hide (fun X => by
    rw [(HB0.out X).cell (p := ⟨R, 1, none⟩) hlt]
    exact cell_of_row W R 1 _ _ _ hb)
  obtain ⟨ep, es, er⟩ := e
  unfold entV
  simp only
  have hc := HC.out
  generalize r.proc = rp at *
  clear hb HC
  by_cases h : rp < ep
  · have HE : Hid (decide (rp < ep) = true) := decide_eq_true h
    rw [HE.out]
    clear HE
    go_enter Try.func85, Try.ntmps85
    go_wp2
    go_ret
    exact ⟨rfl, HB0.out _⟩
  · have HE : Hid (decide (rp < ep) = false) := decide_eq_false h
    rw [HE.out]
    clear HE
    go_enter Try.func85, Try.ntmps85
    go_wp2
    go_ret
    exact ⟨rfl, HB0.out _⟩

theorem placeE_any {p : Int} {t : List Ent} {k : Int} (h : FoundE (fun e => decide (p < e.proc)) t k) : (k < 0 ∧ firstG p t = t.length) ∨ (0 ≤ k ∧ k = (firstG p t : Nat)) := by
  rcases h with ⟨rfl, h⟩ | ⟨i, rfl, hi, h1, h2⟩
  · exact .inl ⟨by omega, firstG_all (fun j hj => of_decide_eq_false (h j hj))⟩
  · refine .inr ⟨by omega, ?_⟩
    rw [firstG_at hi (fun j hj => of_decide_eq_false (h1 j hj)) (of_decide_eq_true h2)]

theorem butP_mem {p : Int} {t : List Ent} {P : Ent → Prop} (h : ∀ e ∈ t, P e) : ∀ e ∈ butP p t, P e := fun e he => h e (List.mem_filter.1 he).1

set_option maxRecDepth 100000 in
set_option maxHeartbeats 4000000 in
theorem noteN_any (v : Value) (t : List Ent) (r : Rec) (w : World) (hr : RdE w v t) (hok : RecOk r) (hlim : t.length ≤ 2000) :
    Calls Try.prog 49 #[v, recV r] w fun e w' => ∃ v', e = .returned v' ∧ OwnE w' w.heap.size v' (noteL t ⟨r.proc, r.seq, r.resp⟩) ∧ Below w.heap.size w w' := by
  have hTI : ∀ e ∈ t, EntI e := hr.choose_spec.choose_spec.2.2.2.2.1
  have HTI := hide hTI
  have HX : Hid (Br (w.alloc (.cells (recC r) 64)) w.heap.size (recC r)) := hide (heap_alloc_new w _)
  have HB0 : Hid (Below w.heap.size w (w.alloc (.cells (recC r) 64))) := hide ((Below.refl _ _).alloc (Nat.le_refl _) _)
  have hsz : (w.alloc (.cells (recC r) 64)).heap.size = w.heap.size + 1 := by simp
  have HR := hide (hr.below HB0.out (Nat.le_refl _))
  have HEI : Hid (EntI ⟨r.proc, r.seq, r.resp⟩) := hide ⟨hok.2.1, hok.2.2.1, hok.2.2.2.2⟩
  have eg1 : ∀ args W, (callFunc 84 args).run Try.prog W = .ok (.enter 84 args) W := enters_of Try.func84 (by kernel_rfl) rfl
  have eg2 : ∀ args W, (callFunc 85 args).run Try.prog W = .ok (.enter 85 args) W := enters_of Try.func85 (by kernel_rfl) rfl
  have HEG1 := hide eg1
  have HEG2 := hide eg2
  have HNI : Hid (noteL t ⟨r.proc, r.seq, r.resp⟩ = (butP r.proc t).take (firstG r.proc (butP r.proc t)) ++ (⟨r.proc, r.seq, r.resp⟩ :: (butP r.proc t).drop (firstG r.proc (butP r.proc t)))) := hide (noteL_ins ⟨r.proc, r.seq, r.resp⟩ t)
  have HBT : Hid (t.filter (fun e => !decide (e.proc = r.proc)) = butP r.proc t) := hide (by unfold butP; simp)
  have HN1 := hide (fun W e h => note1_any r w.heap.size e W h)
  have HN2 := hide (fun W e h => note2_any r w.heap.size e W h)
  have HXB : Hid (∀ W, Below (w.heap.size + 1) (w.alloc (.cells (recC r) 64)) W → Br W w.heap.size (recC r)) := hide (fun W h => (h.block w.heap.size (by omega)).trans HX.out)
  have hmf : ∀ (fn : Fn) (first cap : Array Value) (w : World), (Instr.makeFunc fn first cap).run Try.prog w = .ok (.func fn first cap) w := fun _ _ _ _ => rfl
  have HCL := hide (fun W v l h h2 => cloneE_any v l W h h2)
  clear eg1 eg2 hTI hok hr
  unfold recV recC at *
  go_enter Try.func49, Try.ntmps49
  go_wp2_with fail
  refine (HCL.out _ _ t HR.out (by omega)).mono ?_
  rintro x W1 ⟨v1, rfl, ho1, hb1⟩
  rw [hsz] at ho1 hb1
  have HO1 := hide ho1
  have HB1 := hide hb1
  clear ho1 hb1
  have HDE := hide (deleteFuncE_any 84 w.heap.size (fun e => decide (e.proc = r.proc)) v1 t (w.heap.size + 1) W1 HO1.out HTI.out (by have := HB1.out.size; omega) (by omega) HEG1.out (fun W e h => HN1.out W e (HXB.out W (HB1.out.trans h))))
  go_wp2_with fail
  refine HDE.out.mono ?_
  rintro x W2 ⟨v2, rfl, ho2, hb2⟩
  rw [HBT.out] at ho2
  have HO2 := hide ho2
  have HB2 := hide (HB1.out.trans hb2)
  have HT2 := hide (butP_mem (p := r.proc) HTI.out)
  have hl2 : (butP r.proc t).length ≤ 2000 := Nat.le_trans (butP_len _ _) hlim
  clear ho2 hb2 HDE HO1 HB1 HR HTI HBT
  obtain ⟨bt, hbt⟩ : ∃ bt, bt = butP r.proc t := ⟨_, rfl⟩
  rw [← hbt] at HO2 HT2 HNI hl2
  clear hbt
  have HIX := hide (indexFuncE_any 85 w.heap.size (fun e => decide (r.proc < e.proc)) v2 bt W2 (HO2.out.rd HT2.out) HEG2.out (fun W e h => HN2.out W e (HXB.out W (HB2.out.trans (h.mono (by have := HB2.out.size; omega))))))
  obtain ⟨va, vc, hv2⟩ := HO2.out.shape
  subst hv2
  go_wp2_with fail
  refine HIX.out.mono ?_
  rintro x W3 ⟨k, rfl, hf, hb3⟩
  have HO3 := hide (HO2.out.below hb3 (Nat.le_refl _))
  have HB3 := hide (HB2.out.trans (hb3.mono (by have := HB2.out.size; omega)))
  have HX3 := hide (HXB.out W3 HB3.out)
  have HBW := hide (HB0.out.trans (HB3.out.mono (by omega)))
  have hs3 : w.heap.size + 1 ≤ W3.heap.size := by have := HB3.out.size; omega
  clear hb3 HIX HO2 HB2
  obtain ⟨q1, f1⟩ := HX3.out.cell 1
  obtain ⟨q2, f2⟩ := HX3.out.cell 2
  obtain ⟨q4, f4⟩ := HX3.out.cell 6
  have hfl := firstG_le r.proc bt
  have HIN := hide (fun I hI N hN => insertE_any (.slice va bt.length vc) bt (w.heap.size + 1) W3 HO3.out hs3 (by omega) (firstG r.proc bt) hfl ⟨r.proc, r.seq, r.resp⟩ HEI.out I hI N hN)
  rw [← HNI.out] at HIN
  unfold entC at HIN
  have hbl : (bt.length : Int) ≤ 2000 := by omega
  rcases placeE_any hf with ⟨hk, hE⟩ | ⟨hk, hE⟩
  · clear hf
    have HE2 := hide hE
    clear hE hfl hl2 hlim
    go_wp2_with fail
    refine (HIN.out _ (by rw [HE2.out]) _ rfl).mono ?_
    rintro x W4 ⟨v4, rfl, ho4, hb4⟩
    have HO4 := hide (ho4.mono (B' := w.heap.size) (by omega))
    have HB4 := hide (HBW.out.trans (hb4.mono (by omega)))
    clear ho4 hb4
    go_wp2
    go_ret
    exact ⟨_, rfl, HO4.out, HB4.out⟩
  · clear hf
    have hkn : ¬ k < 0 := by omega
    have HE2 := hide hE
    clear hE hfl hl2 hlim
    go_wp2_with fail
    refine (HIN.out _ HE2.out _ rfl).mono ?_
    rintro x W4 ⟨v4, rfl, ho4, hb4⟩
    have HO4 := hide (ho4.mono (B' := w.heap.size) (by omega))
    have HB4 := hide (HBW.out.trans (hb4.mono (by omega)))
    clear ho4 hb4
    go_wp2
    go_ret
    exact ⟨_, rfl, HO4.out, HB4.out⟩

end Go.Proofs.Ytgpdbboieokldaa
