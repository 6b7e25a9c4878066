/- Contracts of ferrymanref11: New, Cut, Read, SyncDir. -/
import Derived.Test.YtfhgjnfichgdiaaRef11F
import Derived.Test.YtfhgjnfichgdiaaFilesF
namespace Go.Proofs.Ytfhgjnfichgdiaa
open Go.RowKit

/-- What a call that answers a code makes of the document's disk. -/
def RDid (F : Nat → Prop) (w : World) (p : Nat) (d : Dk) (code : Int) (N T : Nat) (e : Ending) (w' : World) : Prop :=
  e = .returned (.int .i64 code) ∧ ∃ F', Rsk F' w' p d N T ∧ Only F w w' ∧ ∀ k, F' k → F k ∨ w.heap.size ≤ k

theorem Bnd.mono' {d : Dk} {N T N' T' : Nat} (h : Bnd d N T) (hN : N ≤ N') (hT : T ≤ T') : Bnd d N' T' :=
  ⟨by have := h.files; omega, by have := h.names; omega, fun x hx => by have := h.bytes x hx; omega⟩

theorem Rsk.mono {F : Nat → Prop} {w : World} {p : Nat} {d : Dk} {N T N' T' : Nat} (h : Rsk F w p d N T) (hN : N ≤ N') (hT : T ≤ T') : Rsk F w p d N' T' := by
  obtain ⟨L, h1, h2, h3, h4, h5, h6⟩ := h
  exact ⟨L, h1, h2, h3, h4, h5.mono' hN hT, h6⟩

theorem Rsk.below {F : Nat → Prop} {w w' : World} {p : Nat} {d : Dk} {N T : Nat} (h : Rsk F w p d N T) (hb : Below w.heap.size w w') : Rsk F w' p d N T := by
  obtain ⟨L, h1, h2⟩ := h
  exact ⟨L, h1.below hb, h2⟩

theorem Rsk.only {F G : Nat → Prop} {w w' : World} {p : Nat} {d : Dk} {N T : Nat} (h : Rsk F w p d N T) (ho : Only G w w') (hFG : ∀ k, F k → ¬ G k) : Rsk F w' p d N T := by
  obtain ⟨L, h1, h2⟩ := h
  exact ⟨L, h1.only ho hFG, h2⟩

theorem RDid.same {F : Nat → Prop} {w w' : World} {p : Nat} {d : Dk} {code : Int} {N T N' T' : Nat} (h : Rsk F w p d N T) (hb : Below w.heap.size w w') (hN : N ≤ N') (hT : T ≤ T') : RDid F w p d code N' T' (.returned (.int .i64 code)) w' :=
  ⟨rfl, F, (h.below hb).mono hN hT, Only.ofBelow hb, fun _ hk => .inl hk⟩

theorem RefL.gr {F F' : Nat → Prop} {w : World} {p : Nat} {L : RLay} {d : Dk} (h : RefL F w p L d) (hF : ∀ k, F k → F' k) (hl : ∀ k, F' k → k < w.heap.size) : RefL F' w p L d :=
  ⟨h.head, h.files, h.kept, h.waits, h.file, h.psn, h.vsn, hF _ h.fh, fun g hg => hF _ (h.ff g hg), fun g hg => hF _ (h.fk g hg), fun g hg => hF _ (h.fw g hg), fun i hi => hF _ (h.fp i hi), fun i hi g hg => hF _ (h.fb i hi g hg), hl⟩

theorem RefL.more {F : Nat → Prop} {w w' : World} {p : Nat} {L : RLay} {d : Dk} (h : RefL F w p L d) (hb : Below w.heap.size w w') : RefL (Gr F w w') w' p L d :=
  (h.below hb).gr (fun _ hk => .inl hk) (Gr.lt hb.size h.lt)

theorem newRef (w : World) (room : Int) (hr : I64 room) : Rsk (fun k => w.heap.size ≤ k ∧ k < (w.alloc (.cells #[.int .i64 room, .slice none 0 0, .slice none 0 0, .slice none 0 0, .bool false, .bool false, .int .i64 0] 42)).heap.size)
    (w.alloc (.cells #[.int .i64 room, .slice none 0 0, .slice none 0 0, .slice none 0 0, .bool false, .bool false, .int .i64 0] 42)) w.heap.size (newD room) 0 0 := by
  refine ⟨⟨.slice none 0 0, .slice none 0 0, .slice none 0 0, fun _ => 0, fun _ => .slice none 0 0, false, false, 0⟩, ⟨heap_alloc_new w _, World.ownsRow_nil _ _ _ _, World.ownsRow_nil _ _ _ _, World.ownsRow_nil _ _ _ _, (fun i hi => by cases hi), (fun i j hi => by cases hi), (fun i j hi => by cases hi), ⟨Nat.le_refl _, by simp⟩, (fun g hg => by cases hg), (fun g hg => by cases hg), (fun g hg => by cases hg), (fun i hi => by cases hi), (fun i hi => by cases hi), fun k hk => hk.2⟩, ⟨rfl, fun _ => ⟨rfl, fun h => by cases h⟩⟩, ⟨by decide, by decide⟩, okD_new room, ⟨Nat.le_refl _, Nat.le_refl _, (fun x hx => by cases hx)⟩, hr, ⟨by show (-9223372036854775808 : Int) ≤ -1; omega, by show (-1 : Int) ≤ 9223372036854775807; omega⟩⟩

set_option maxRecDepth 100000 in
theorem refNew_any (room : Int) (hr : I64 room) (w : World) :
    Calls Try.prog 7 #[.int .i64 room] w fun e w' => ∃ p, e = .returned (ptr p) ∧ Rsk (fun k => w.heap.size ≤ k ∧ k < w'.heap.size) w' p (newD room) 0 0 ∧ Below w.heap.size w w' := by
  have HR := hide hr
  clear hr
  go_enter Try.func7, Try.ntmps7
  go_wp2
  go_ret
  exact ⟨_, rfl, newRef w room HR.out, (Below.refl _ w).alloc (Nat.le_refl _) _⟩

set_option maxRecDepth 100000 in
theorem refCut_any {F : Nat → Prop} {p : Nat} {d : Dk} {N T : Nat} (n : Int) (hn : I64 n) (w : World) (h : Rsk F w p d N T) :
    Calls Try.prog 29 #[ptr p, .int .i64 n] w fun e w' => e = .returned (.tuple #[]) ∧ Rsk F w' p (cutD d n) N T ∧ Only F w w' := by
  obtain ⟨L, h, hp, hle, hok, hbn, hrm, hpw⟩ := h
  have H := hide h
  have HC := hide (And.intro hok (And.intro hbn hrm))
  have HP := hide hp
  have HN := hide hn
  have HPW := hide hpw
  obtain ⟨⟨-, -, -, -, c4, c5, c6⟩, -, -, -, f4, f5, f6⟩ := h.cells
  clear h hok hbn hrm hpw hp hle
  have HI : Hid (I64 (cutD d n).power) := hide (by
    obtain ⟨h1, h2⟩ := HN.out
    unfold cutD I64
    dsimp only
    split <;> omega)
  by_cases h1 : n ≥ 1
  · have hb : decide (n < 1) = false := decide_eq_false (by omega)
    have ha : decide (n ≥ 1) = true := decide_eq_true h1
    go_enter Try.func29, Try.ntmps29
    go_wp2
    go_end0
    refine ⟨rfl, ⟨{ L with armed := true, left := n }, ?_, ?_, HN.out, OkD.cut HC.out.1 n, ⟨HC.out.2.1.files, HC.out.2.1.names, HC.out.2.1.bytes⟩, HC.out.2.2, HI.out⟩, ((Only.refl _ _).setCell 5 (fun _ => H.out.fh) _).setCell 6 (fun _ => H.out.fh) _⟩
    · have h1 := (H.out.setHead (L' := { L with armed := true }) 5 (.bool true) ⟨rfl, rfl, rfl, rfl, rfl⟩ rfl).setHead (L' := { L with armed := true, left := n }) 6 (.int .i64 n) ⟨rfl, rfl, rfl, rfl, rfl⟩ rfl
      exact ⟨h1.head, h1.files, h1.kept, h1.waits, h1.file, h1.psn, h1.vsn, h1.fh, h1.ff, h1.fk, h1.fw, h1.fp, h1.fb, h1.lt⟩
    · obtain ⟨p1, -⟩ := HP.out
      show PwR _ (if d.power = 0 then 0 else max n 0)
      by_cases h0 : d.power = 0
      · rw [if_pos h0]
        exact ⟨by show L.out = _; rw [p1, h0], fun hh => absurd rfl hh⟩
      · rw [if_neg h0, show max n 0 = n by omega]
        exact ⟨by show L.out = _; rw [p1, decide_eq_false h0, decide_eq_false (by omega)], fun _ => ⟨(decide_eq_true (by omega)).symm, fun _ => rfl⟩⟩
  · have hb : decide (n < 1) = true := decide_eq_true (by omega)
    have ha : decide (n ≥ 1) = false := decide_eq_false h1
    go_enter Try.func29, Try.ntmps29
    go_wp2
    go_end0
    refine ⟨rfl, ⟨{ L with armed := false, left := n, out := true }, ?_, ?_, HN.out, OkD.cut HC.out.1 n, ⟨HC.out.2.1.files, HC.out.2.1.names, HC.out.2.1.bytes⟩, HC.out.2.2, HI.out⟩, (((Only.refl _ _).setCell 5 (fun _ => H.out.fh) _).setCell 6 (fun _ => H.out.fh) _).setCell 4 (fun _ => H.out.fh) _⟩
    · have h1 := ((H.out.setHead (L' := { L with armed := false }) 5 (.bool false) ⟨rfl, rfl, rfl, rfl, rfl⟩ rfl).setHead (L' := { L with armed := false, left := n }) 6 (.int .i64 n) ⟨rfl, rfl, rfl, rfl, rfl⟩ rfl).setHead (L' := { L with armed := false, left := n, out := true }) 4 (.bool true) ⟨rfl, rfl, rfl, rfl, rfl⟩ rfl
      exact ⟨h1.head, h1.files, h1.kept, h1.waits, h1.file, h1.psn, h1.vsn, h1.fh, h1.ff, h1.fk, h1.fw, h1.fp, h1.fb, h1.lt⟩
    · show PwR _ (if d.power = 0 then 0 else max n 0)
      rw [show (if d.power = 0 then 0 else max n 0) = (0 : Int) by split <;> omega]
      exact ⟨rfl, fun hh => absurd rfl hh⟩

set_option maxRecDepth 100000 in
theorem refRead_any {F : Nat → Prop} {p : Nat} {d : Dk} {N T : Nat} (n : Int) (w : World) (h : Rsk F w p d N T) (hN : N ≤ 900000) (hT : T ≤ 1000000000) :
    Calls Try.prog 20 #[ptr p, .int .i64 n] w fun e w' => ∃ v, e = .returned (.tuple #[v, .int .i64 (readD d n).2]) ∧ Own w' w.heap.size v (readD d n).1 ∧ Below w.heap.size w w' := by
  obtain ⟨L, h, hp, hle, hok, hbn, -, -⟩ := h
  have HF := hide (refFind_any n w h hok hbn hN)
  have H := hide h
  have HOK := hide hok
  have HBN := hide hbn
  obtain ⟨⟨-, -, -, -, c4, -, -⟩, -⟩ := h.cells
  rw [hp.1] at c4
  clear h hok hbn hp hle
  unfold readD
  by_cases h0 : d.power = 0
  · rw [if_pos h0]
    rw [decide_eq_true h0] at c4
    clear h0
    go_enter Try.func20, Try.ntmps20
    go_wp2
    go_ret2
    exact ⟨_, rfl, Own.nil _ _, Below.refl _ _⟩
  rw [if_neg h0]
  rw [decide_eq_false h0] at c4
  clear h0
  cases ho : look (dirD d) n with
  | none =>
    rw [ho] at HF
    dsimp only [fNum] at HF ⊢
    clear ho
    go_enter Try.func20, Try.ntmps20
    go_wp2_with fail
    refine HF.out.mono ?_
    rintro e w' ⟨rfl, hb⟩
    have HB := hide hb
    clear hb
    go_wp2
    go_ret2
    exact ⟨_, rfl, Own.nil _ _, HB.out⟩
  | some f =>
    rw [ho] at HF
    dsimp only [fNum] at HF ⊢
    have hf : f < d.files.length := (HOK.out.dir.mayOf ho).2
    have hfn : f ≤ 900000 := by have := HBN.out.files; omega
    have hlb := HBN.out.bytes _ (mem_fl hf)
    clear ho
    go_enter Try.func20, Try.ntmps20
    go_wp2_with fail
    refine HF.out.mono ?_
    rintro e w1 ⟨rfl, hb⟩
    have HB := hide hb
    have HR := hide (H.out.below hb)
    obtain ⟨⟨-, g1, -⟩, -⟩ := HR.out.cells
    obtain ⟨fg, fo, fc, hfv, hfc⟩ := HR.out.fileCell hf
    rw [hfv] at g1
    have hxf := HR.out.file f hf
    obtain ⟨va, vc, hvs⟩ := hxf.own.shape
    have HRD := hide hxf.own.rd
    have g0 : w1.cell? ⟨L.ps f, 0, none⟩ = some (.slice va (fl d.files f).b.length vc) := by rw [← hvs]; exact (hxf.box.cell 0 rfl).1
    rw [hvs] at HRD
    have HFL := hide HBN.out.files
    have hfl2 : d.files.length ≤ 900000 := by have := HFL.out; omega
    have HSZ : Hid (w.heap.size ≤ w1.heap.size) := hide hb.size
    have HLB := hide hlb
    clear hxf hvs hfv hb c4
    go_wp2_with (at_builtin; refine wpList_append_rd _ rfl _ _ rfl w.heap.size _ [] rfl (Own.nil _ _) _ (fl d.files f).b rfl HRD.out (by have := HLB.out; simp; omega) HSZ.out ?_)
    intro v4 w4 ho4 hb4
    have HO4 := hide ho4
    have HB4 := hide (HB.out.trans hb4)
    clear ho4 hb4
    go_wp2
    go_ret2
    exact ⟨v4, rfl, HO4.out, HB4.out⟩

theorem RefL.synced {F : Nat → Prop} {w w1 : World} {p : Nat} {L : RLay} {d : Dk} {v : Value} {l : Dir} (h : RefL F w p L d) (hg : GotN w w1 L.kv v l) :
    RefL (Gr F w w1) ((w1.setCell ⟨p, 2, none⟩ v).setCell ⟨p, 3, none⟩ (.slice none 0 0)) p { L with kv := v, wv := .slice none 0 0 } { d with kept := l, waits := [] } := by
  obtain ⟨ho, hv, hb⟩ := hg
  have h1 := h.more hb
  have hk : ∀ k, k ≠ p → ((w1.setCell ⟨p, 2, none⟩ v).setCell ⟨p, 3, none⟩ (.slice none 0 0)).heap[k]? = w1.heap[k]? := fun k hne => by
    rw [Below.heap_setCell _ _ _ _ hne, Below.heap_setCell _ _ _ _ hne]
  have hrow : ∀ {t : TypeId} {s n g : Nat} {v : Value} {xs : List Value}, w1.ownsRow 0 t s v n xs → v.ownBlock = some g → t ≠ 42 → g ≠ p := fun {t s n g v xs} hr hg ht => by
    rcases hr.2 with ⟨hv, _⟩ | ⟨g', cap, cur, hv, _, hb, _⟩
    · rw [hv] at hg; cases hg
    · rw [hv] at hg
      obtain rfl : g' = g := by simpa [Value.ownBlock] using hg
      exact Bk.ne hb h1.head ht
  refine ⟨(h1.head.set 2 _).set 3 _, ownsRow_keep h1.files fun g hg => hk g (hrow h1.files hg (by decide)), ownsRow_keep ho fun g hg => hk g (hrow ho hg (by decide)), World.ownsRow_nil _ _ _ _,
    fun i hi => (h1.file i hi).keep (hk _ ((h1.file i hi).box.ne h1.head (by decide))) fun g hg => hk g (hrow (h1.file i hi).own hg (by decide)), h1.psn, h1.vsn, h1.fh, h1.ff, fun g hg => ?_, (fun g hg => by cases hg), h1.fp, h1.fb, fun k hk => by simpa using h1.lt k hk⟩
  rcases hv with hv | hv
  · exact h1.fk g (by rw [← hv]; exact hg)
  · exact .inr ⟨(World.ownsRow.lt hv g hg).1, (World.ownsRow.lt hv g hg).2⟩

set_option maxRecDepth 100000 in
set_option maxHeartbeats 1000000 in
theorem refSyncDir_any {F : Nat → Prop} {p : Nat} {d : Dk} {N T : Nat} (w : World) (h : Rsk F w p d N T) (hN : N ≤ 900000) :
    Calls Try.prog 27 #[ptr p] w fun e w' => RDid F w p (syncDirD d).1 (syncDirD d).2 (N + 2) T e w' := by
  have HD := hide h
  obtain ⟨L, h, hp, hle, hok, hbn, hrm, hpw⟩ := h
  have HA := hide (refAll_any w h hok hbn hN)
  have H := hide h
  have HOK := hide hok
  have HBN := hide hbn
  have HI := hide (And.intro hrm hpw)
  have HP := hide hp
  have HLE := hide hle
  obtain ⟨⟨-, -, -, -, c4, -, -⟩, -⟩ := h.cells
  rw [hp.1] at c4
  clear h hok hbn hrm hpw hp hle
  unfold syncDirD
  by_cases h0 : d.power = 0
  · rw [if_pos h0]
    rw [decide_eq_true h0] at c4
    clear h0
    go_enter Try.func27, Try.ntmps27
    go_wp2
    go_ret
    exact RDid.same HD.out (Below.refl _ _) (by omega) (Nat.le_refl _)
  rw [if_neg h0]
  have HZ := hide h0
  rw [decide_eq_false h0] at c4
  clear h0
  go_enter Try.func27, Try.ntmps27
  go_wp2_with fail
  refine HA.out.mono ?_
  rintro e W1 ⟨v, rfl, hg⟩
  have HD1 := hide (H.out.synced hg)
  have HX := hide (H.out.more hg.2.2)
  obtain ⟨⟨-, -, k2, k3, -⟩, -, j2, j3, -⟩ := HX.out.cells
  have HON1 : Hid (Only F w ((W1.setCell ⟨p, 2, none⟩ v).setCell ⟨p, 3, none⟩ (.slice none 0 0))) := hide (((Only.ofBelow hg.2.2).setCell 2 (fun _ => H.out.fh) _).setCell 3 (fun _ => H.out.fh) _)
  obtain ⟨W2, hW2⟩ : ∃ W2, W2 = (W1.setCell ⟨p, 2, none⟩ v).setCell ⟨p, 3, none⟩ (.slice none 0 0) := ⟨_, rfl⟩
  rw [← hW2] at HD1 HON1
  have HW2 := hide hW2
  obtain ⟨va, vn, vc, hvs⟩ : ∃ a b c, L.wv = .slice a b c := by
    rcases H.out.waits.2 with ⟨hv, hn⟩ | ⟨g, cap, cur, hv, _⟩
    · exact ⟨_, _, _, hv⟩
    · exact ⟨_, _, _, hv⟩
  rw [hvs] at k3
  obtain ⟨ka, kn, kc, hks⟩ : ∃ a b c, L.kv = .slice a b c := by
    obtain ⟨a, b, hh⟩ := H.out.kept.shape
    exact ⟨_, _, _, hh⟩
  rw [hks] at k2
  obtain ⟨a9, c9, hv9⟩ := hg.1.shape
  subst hv9
  clear c4 hg hvs hks hW2
  go_upto_region 5 with fail
  rw [← HW2.out]
  clear HW2 k2 k3 j2 j3
  go_wp2_with fail
  refine (refDid_any W2 HD1.out HP.out HZ.out HI.out.2).mono ?_
  rintro e W4 ⟨rfl, ⟨L4, hd4, hp4, hl4⟩, hon4⟩
  go_wp2
  go_ret
  refine ⟨rfl, _, ⟨L4, hd4, hp4, hl4 HLE.out, okD_kept (fs := d.files) HOK.out.dir HOK.out.keep, ⟨by have := HBN.out.files; show d.files.length ≤ _; omega, ?_, HBN.out.bytes⟩, HI.out.1, tick_i64 HI.out.2⟩, HON1.out.trans hon4 (fun k hk hf => ?_), fun k hk => ?_⟩
  · have h1 := HBN.out.names
    have h2 := dirK_len d d.waits.length
    rw [dirK_all] at h2
    show (dirD d).length + 0 ≤ _
    omega
  · rcases hf with hf | hf
    · exact hf
    · omega
  · rcases hk with hk | hk
    · exact .inl hk
    · exact .inr hk.1

end Go.Proofs.Ytfhgjnfichgdiaa
