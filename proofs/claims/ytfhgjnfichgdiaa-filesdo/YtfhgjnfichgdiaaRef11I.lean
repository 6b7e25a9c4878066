/- Contracts of ferrymanref11: Sync. -/
import Derived.Test.YtfhgjnfichgdiaaRef11H
import Derived.BigRegion
namespace Go.Proofs.Ytfhgjnfichgdiaa
open Go.RowKit

/-- One file is changed. -/
theorem RefL.setFile {F F' : Nat → Prop} {w w' : World} {p : Nat} {L : RLay} {d : Dk} {f : Nat} (h : RefL F w p L d) (hf : f < d.files.length) {v' : Value} {x' : Fl}
    (hk : ∀ k, F k → k ≠ L.ps f → (L.vs f).ownBlock ≠ some k → w'.heap[k]? = w.heap[k]?)
    (hv : RFileV w' (L.ps f) v' x') (hr : v'.ownBlock = (L.vs f).ownBlock ∨ ∀ g, v'.ownBlock = some g → w.heap.size ≤ g)
    (hF : ∀ k, F k → F' k) (hF' : ∀ g, v'.ownBlock = some g → F' g) (hlt : ∀ k, F' k → k < w'.heap.size) :
    RefL F' w' p { L with vs := fun i => if i = f then v' else L.vs i } { d with files := d.files.set f x' } := by
  have hb0 := (h.file f hf).box
  have hne : ∀ {t : TypeId} {k : Nat} {cs : Array Value}, Bk t w k cs → F k → t ≠ 64 → t ≠ 5 → w'.heap[k]? = w.heap[k]? := fun {t k cs} hb hfk h1 h2 => hk k hfk (hb.ne hb0 h1) fun hg => by
    obtain ⟨cs', hb'⟩ := ownBkS (h.file f hf).own hg
    exact (hb.ne hb' h2) rfl
  have hrw : ∀ {t : TypeId} {s n g : Nat} {v : Value} {xs : List Value}, w.ownsRow 0 t s v n xs → v.ownBlock = some g → F g → t ≠ 64 → t ≠ 5 → w'.heap[g]? = w.heap[g]? := fun hr hg hf h1 h2 => by
    obtain ⟨cs', hb'⟩ := ownBkS hr hg
    exact hne hb' hf h1 h2
  have hlen : (d.files.set f x').length = d.files.length := List.length_set ..
  refine ⟨h.head.keep (hne h.head h.fh (by decide) (by decide)), ?_, ownsRow_keep h.kept fun g hg => hrw h.kept hg (h.fk g hg) (by decide) (by decide), ownsRow_keep h.waits fun g hg => hrw h.waits hg (h.fw g hg) (by decide) (by decide), fun i hi => ?_, fun i j hi hj => ?_, fun i j hi hj hij => ?_, hF _ h.fh, fun g hg => hF g (h.ff g hg), fun g hg => hF g (h.fk g hg), fun g hg => hF g (h.fw g hg), fun i hi => hF _ (h.fp i (by rw [← hlen]; exact hi)), fun i hi => ?_, hlt⟩
  · show w'.ownsRow 0 _ 1 L.fv (d.files.set f x').length (ptrCells L.ps (d.files.set f x').length)
    rw [hlen]
    exact ownsRow_keep h.files fun g hg => hrw h.files hg (h.ff g hg) (by decide) (by decide)
  · have hi' : i < d.files.length := by rw [← hlen]; exact hi
    show RFileV w' (L.ps i) (if i = f then v' else L.vs i) (fl (d.files.set f x') i)
    by_cases e : i = f
    · rw [if_pos e, e, fl_set_same hf]
      exact hv
    · rw [if_neg e, fl_set_other (fun e' => e e'.symm)]
      refine (h.file i hi').keep (hk _ (h.fp i hi') (h.psn i f hi' hf e) fun hg => ?_) fun g hg => hk g (h.fb i hi' g hg) ?_ (fun hg' => h.vsn i f hi' hf e g hg hg')
      · obtain ⟨cs', hb'⟩ := ownBkS (h.file f hf).own hg
        exact ((h.file i hi').box.ne hb' (by decide)) rfl
      · obtain ⟨cs', hb'⟩ := ownBkS (h.file i hi').own hg
        exact hb'.ne hb0 (by decide)
  · rw [hlen] at hi hj
    exact h.psn i j hi hj
  · rw [hlen] at hi hj
    have hold : ∀ i, i < d.files.length → i ≠ f → ∀ g, (L.vs i).ownBlock = some g → v'.ownBlock ≠ some g := fun i hi hif g hg hg' => by
      rcases hr with hr | hr
      · exact h.vsn i f hi hf hif g hg (by rw [← hr]; exact hg')
      · have h1 := hr g hg'
        have h2 := h.lt g (h.fb i hi g hg)
        omega
    show ∀ g, (if i = f then v' else L.vs i).ownBlock = some g → (if j = f then v' else L.vs j).ownBlock ≠ some g
    intro g
    by_cases e1 : i = f
    · rw [if_pos e1, if_neg (by rw [← e1]; exact Ne.symm hij)]
      exact fun hg hg' => hold j hj (by rw [← e1]; exact Ne.symm hij) g hg' hg
    · rw [if_neg e1]
      by_cases e2 : j = f
      · rw [if_pos e2]
        exact hold i hi e1 g
      · rw [if_neg e2]
        exact h.vsn i j hi hj hij g
  · rw [hlen] at hi
    show ∀ g, (if i = f then v' else L.vs i).ownBlock = some g → F' g
    intro g
    by_cases e : i = f
    · rw [if_pos e]
      exact hF' g
    · rw [if_neg e]
      exact fun hg => hF g (h.fb i hi g hg)

theorem Bnd.kept2 {d : Dk} {N T : Nat} (h : Bnd d N T) (f : Nat) (q : Int) : Bnd { d with files := keepF d.files f, power := q } (N + 2) T := by
  refine ⟨?_, ?_, ?_⟩
  · have := h.files
    show (keepF d.files f).length ≤ _
    simp [keepF]
    omega
  · have := h.names
    show d.kept.length + d.waits.length ≤ _
    omega
  · intro x hx
    by_cases hf : f < d.files.length
    · rcases List.mem_or_eq_of_mem_set hx with hx | rfl
      · exact h.bytes x hx
      · have := h.bytes _ (mem_fl hf)
        exact this
    · have e : keepF d.files f = d.files := by unfold keepF; exact List.set_eq_of_length_le (by omega)
      exact h.bytes x (by rw [← e]; exact hx)

set_option maxRecDepth 100000 in
set_option maxHeartbeats 2000000 in
theorem refSync_any {F : Nat → Prop} {p : Nat} {d : Dk} {N T : Nat} (n : Int) (w : World) (h : Rsk F w p d N T) (hN : N ≤ 900000) :
    Calls Try.prog 22 #[ptr p, .int .i64 n] w fun e w' => RDid F w p (syncD d n).1 (syncD d n).2 (N + 2) T e w' := by
  have HD := hide h
  obtain ⟨L, h, hp, hle, hok, hbn, hrm, hpw⟩ := h
  have HF := hide (refFind_any n w h hok hbn hN)
  have H := hide h
  have HOK := hide hok
  have HBN := hide hbn
  have HI := hide (And.intro hrm hpw)
  have HP := hide hp
  have HLE := hide hle
  obtain ⟨⟨-, -, -, -, c4, -, -⟩, -⟩ := h.cells
  rw [hp.1] at c4
  clear h hok hbn hrm hpw hp hle
  unfold syncD
  by_cases h0 : d.power = 0
  · rw [if_pos h0]
    rw [decide_eq_true h0] at c4
    clear h0
    go_enter Try.func22, Try.ntmps22
    go_wp2
    go_ret
    exact RDid.same HD.out (Below.refl _ _) (by omega) (Nat.le_refl _)
  rw [if_neg h0]
  have HZ := hide h0
  rw [decide_eq_false h0] at c4
  clear h0
  cases ho : look (dirD d) n with
  | none =>
    rw [ho] at HF
    dsimp only [fNum] at HF ⊢
    clear ho
    go_enter Try.func22, Try.ntmps22
    go_wp2_with fail
    refine HF.out.mono ?_
    rintro e w' ⟨rfl, hb⟩
    have HB := hide hb
    clear hb
    go_wp2
    go_ret
    exact RDid.same HD.out HB.out (by omega) (Nat.le_refl _)
  | some f =>
    rw [ho] at HF
    dsimp only [fNum] at HF ⊢
    have hf : f < d.files.length := (HOK.out.dir.mayOf ho).2
    have hfn : f ≤ 900000 := by have := HBN.out.files; omega
    have HLK := hide ho
    clear ho
    have hlb := HBN.out.bytes _ (mem_fl hf)
    have hfl2 : d.files.length ≤ 900000 := by have := HBN.out.files; omega
    go_enter Try.func22, Try.ntmps22
    go_wp2_with fail
    refine HF.out.mono ?_
    rintro e w1 ⟨rfl, hb⟩
    have HB := hide hb
    have HR := hide (H.out.below hb)
    have HX := hide (HR.out.file f hf)
    obtain ⟨⟨-, g1, -⟩, -⟩ := HR.out.cells
    obtain ⟨fg, fo, fc, hfv, hfc⟩ := HR.out.fileCell hf
    rw [hfv] at g1
    obtain ⟨va, vc, hvs⟩ := HX.out.own.shape
    have g0 : w1.cell? ⟨L.ps f, 0, none⟩ = some (.slice va (fl d.files f).b.length vc) := by rw [← hvs]; exact (HX.out.box.cell 0 rfl).1
    obtain ⟨b1, f1⟩ := HX.out.box.cell 1 rfl
    obtain ⟨m, hm⟩ : ∃ m, m = (fl d.files f).b.length := ⟨_, rfl⟩
    have HDX : Hid (∀ W, Below w1.heap.size w1 W → RefL F (W.setCell ⟨L.ps f, 1, none⟩ (.int .i64 (m : Int))) p { L with vs := fun i => if i = f then L.vs f else L.vs i } { d with files := keepF d.files f } ∧ Only F w (W.setCell ⟨L.ps f, 1, none⟩ (.int .i64 (m : Int)))) := hide (fun W hW => by
      have hRW := HR.out.below hW
      have hXW := hRW.file f hf
      rw [hm]
      exact ⟨hRW.setFile (F' := F) (v' := L.vs f) (x' := ⟨(fl d.files f).b, (fl d.files f).b.length⟩) hf (fun k _ h1 _ => Below.heap_setCell _ _ _ _ h1) ⟨hXW.box.set 1 _, ownsRow_keep hXW.own fun g hg => Below.heap_setCell _ _ _ _ (by
          obtain ⟨cs', hb'⟩ := ownBkS hXW.own hg
          exact hb'.ne hXW.box (by decide))⟩ (.inl rfl) (fun _ hk => hk) (fun g hg => hRW.fb f hf g hg) (fun k hk => by simpa using hRW.lt k hk),
        (((Only.ofBelow HB.out).trans (G := fun _ => False) (Only.ofBelow hW) (fun _ _ hf => hf.elim))).setCell 1 (fun _ => HR.out.fp f hf) _⟩)
    rw [← hm] at g0 hlb
    clear c4 hfv hvs hb hm HX
    go_upto_region 6 with fail
    go_region
    have HD1 := hide ((HDX.out w1 (Below.refl _ _)).1.keep (w' := (w1.setCell ⟨L.ps f, 1, none⟩ (.int .i64 (m : Int))).drew) (fun _ _ => rfl) (Nat.le_refl _))
    have HON1 : Hid (Only F w (w1.setCell ⟨L.ps f, 1, none⟩ (.int .i64 (m : Int))).drew) := hide ((HDX.out w1 (Below.refl _ _)).2.drewN 1)
    obtain ⟨W2, hW2⟩ : ∃ W2, W2 = (w1.setCell ⟨L.ps f, 1, none⟩ (.int .i64 (m : Int))).drew := ⟨_, rfl⟩
    rw [← hW2] at HD1 HON1 ⊢
    clear hW2 g0 g1 hfc b1 f1 HDX
    go_wp2_with fail
    refine (refDid_any W2 HD1.out HP.out HZ.out HI.out.2).mono ?_
    rintro e W4 ⟨rfl, hd4, hon4⟩
    have HD4 := hide hd4
    have HON4 := hide hon4
    clear hd4 hon4
    go_wp2
    go_ret
    exact RDid.of (d' := { d with files := keepF d.files f }) (L := L) (HON1.out) (fun k hk => .inl hk) HD4.out HON4.out HLE.out (HOK.out.bytes (by simp [keepF]) (keep_set HOK.out.keep _ (Nat.le_refl _))) (HBN.out.kept2 f _) HI.out.1 HI.out.2

end Go.Proofs.Ytfhgjnfichgdiaa
