/- What is kept is there behind a loss of power: two sequences of calls, as plain data. -/
import Derived.Test.YtfphllhcoiblkaaFilesLawM
namespace Go.Proofs.Ytfphllhcoiblkaa

theorem crash_file (keep : List Int) : ∀ {l : Dir} {fs : List Fl} {f : Nat} (j : Nat), Apart l → (∃ n, (n, f) ∈ l) → f < fs.length → ∃ i, fl (crashF keep l j fs) f = cutF (fl fs f) (pickK keep i)
  | [], _, _, _, _, ⟨_, h⟩, _ => by cases h
  | p :: l, fs, f, j, ha, ⟨n, h⟩, hf => by
    unfold Apart at ha
    rw [List.pairwise_cons] at ha
    rw [crashF]
    by_cases e : p.2 = f
    · refine ⟨j, ?_⟩
      rw [crashF_other keep l (j + 1) _ f fun q hq => by rw [← e]; exact fun e' => ha.1 q hq e'.symm, e, fl_set_same hf]
    · rcases List.mem_cons.1 h with h | h
      · exact absurd (by rw [← h]) e
      · obtain ⟨i, hi⟩ := crash_file keep (l := l) (fs := fs.set p.2 (cutF (fl fs p.2) (pickK keep j))) (f := f) (j + 1) ha.2 ⟨n, h⟩ (by rw [List.length_set]; exact hf)
        rw [fl_set_other e] at hi
        exact ⟨i, hi⟩

theorem crash_read {d : Dk} (h : OkD d) (names : Int) (keep : List Int) {n : Int} {f : Nat} (e : look (dirK d (shareN names d.waits.length)) n = some f) :
    ∃ a, readD (crashD d names keep) n = ((cutF (fl d.files f) a).b, 0) := by
  have hl := h.dirs (shareN names d.waits.length)
  obtain ⟨i, hi⟩ := crash_file keep 0 hl.apart ⟨n, (look_mem hl.rise n f).1 e⟩ (hl.mayOf e).2
  refine ⟨pickK keep i, ?_⟩
  have e2 : look (dirD (crashD d names keep)) n = some f := e
  unfold readD
  rw [if_neg (by show (-1 : Int) ≠ 0; omega), e2]
  show ((fl (crashF keep (dirK d (shareN names d.waits.length)) 0 d.files) f).b, (0 : Int)) = _
  rw [hi]

theorem cutF_full {x : Fl} (h : x.k = x.b.length) (a : Int) : (cutF x a).b = x.b := by
  have h1 := shareN_le a (x.b.length - x.k)
  unfold cutF
  dsimp only
  rw [List.take_of_length_le (by omega)]

/-- A disk with one file that is kept. -/
def kd (n : Int) (a : List UInt8) (q : Int) : Dk := ⟨10000, [⟨a, a.length⟩], [(n, 0)], [], q⟩

theorem kd_made {n : Int} (hn : mayN n = true) {a : List UInt8} (ha : a.length ≤ 300) :
    (appendD (newD 10000) n a).2 = 0 ∧ (syncD (appendD (newD 10000) n a).1 n).2 = 0 ∧ syncDirD (syncD (appendD (newD 10000) n a).1 n).1 = (kd n a (-1), 0) := by
  have e1 : appendD (newD 10000) n a = (⟨10000, [⟨a, 0⟩], [], [.give n 0], -1⟩, 0) := by
    unfold appendD
    rw [if_neg (by decide), if_neg (by rw [hn]; decide), if_neg (by show ¬ ((0 : Int) + a.length > 10000); omega)]
    rfl
  have e2 : syncD ⟨10000, [⟨a, 0⟩], [], [.give n 0], -1⟩ n = (⟨10000, [⟨a, a.length⟩], [], [.give n 0], -1⟩, 0) := by
    have hl : look (dirD ⟨10000, [⟨a, 0⟩], [], [.give n 0], -1⟩) n = some 0 := by
      show (if n = n then some 0 else none) = some 0
      rw [if_pos rfl]
    unfold syncD
    rw [if_neg (by show (-1 : Int) ≠ 0; decide), hl]
    rfl
  rw [e1]
  dsimp only
  rw [e2]
  exact ⟨rfl, rfl, rfl⟩

theorem kd_ok {n : Int} (hn : mayN n = true) (a : List UInt8) (q : Int) : OkD (kd n a q) := by
  refine ⟨fun k => ?_, (fun c hc => by cases hc), fun x hx => ?_⟩
  · show OkL 1 ((([] : List Ch).take k).foldl chD [(n, 0)])
    rw [List.take_nil]
    refine ⟨List.pairwise_singleton _ _, List.pairwise_singleton _ _, fun p hp => ?_⟩
    rw [List.mem_singleton.1 hp]
    exact ⟨hn, Nat.lt_succ_self _⟩
  · rw [List.mem_singleton.1 hx]
    exact Nat.le_refl _

theorem look_one (n : Int) (f : Nat) : look [(n, f)] n = some f := by rw [look, if_pos rfl]

/-- What was synced is there, and what stands there begins what was written. -/
theorem keep_math {a b : List UInt8} (ha : a.length ≤ 300) (hb : b.length ≤ 300) (names : Int) (keep : List Int) (q : Int) :
    ∃ x, readD (crashD (appendD (kd 3 a q) 3 b).1 names keep) 3 = (x, 0) ∧ a.length ≤ x.length ∧ x.length ≤ (a ++ b).length ∧ x = (a ++ b).take x.length := by
  have hm : mayN 3 = true := by decide
  by_cases h0 : q = 0
  · have e1 : appendD (kd 3 a q) 3 b = (kd 3 a q, 11) := dark_append h0 3 b
    rw [e1]
    obtain ⟨c, hc⟩ := crash_read (kd_ok hm a q) names keep (n := 3) (f := 0) (by unfold dirK; rw [show (kd 3 a q).waits = [] from rfl, List.take_nil]; exact look_one 3 0)
    rw [hc, cutF_full rfl]
    refine ⟨a, rfl, Nat.le_refl _, by simp, ?_⟩
    simp
  · have hl : look (dirD (kd 3 a q)) 3 = some 0 := look_one 3 0
    have hu : usedD (kd 3 a q) = a.length := by show a.length + 0 = _; omega
    have e1 : appendD (kd 3 a q) 3 b = (appendTo (kd 3 a q) 0 b, 0) := by
      unfold appendD
      rw [if_neg (show (kd 3 a q).power ≠ 0 from h0), if_neg (by decide), if_neg (by rw [hu]; show ¬ ((a.length : Int) + b.length > 10000); omega), hl]
    rw [e1]
    have hok := (kd_ok hm a q).appendTo 0 b
    obtain ⟨c, hc⟩ := crash_read hok names keep (n := 3) (f := 0) (by unfold dirK; rw [show (appendTo (kd 3 a q) 0 b).waits = [] from rfl, List.take_nil]; exact look_one 3 0)
    have ef : fl (appendTo (kd 3 a q) 0 b).files 0 = ⟨a ++ b, a.length⟩ := rfl
    rw [ef] at hc
    refine ⟨_, hc, ?_, ?_, ?_⟩
    · have h1 := shareN_le c ((a ++ b).length - a.length)
      simp only [cutF, List.length_take, List.length_append] at h1 ⊢
      omega
    · simp only [cutF, List.length_take]
      omega
    · simp only [cutF]
      rw [List.length_take, List.take_eq_take_iff]
      omega

/-- The elder one, and the newer one ahead of its name. -/
def sd (o : List UInt8) (x : Fl) (ws : List Ch) (q : Int) : Dk := ⟨10000, [⟨o, o.length⟩, x], [(5, 0)], ws, q⟩

theorem swap_look (o : List UInt8) (x : Fl) (q : Int) (ws : List Ch) (hws : ws = [.give 1 1] ∨ ws = [.give 1 1, .move 1 5 1]) (k : Nat) :
    look (dirK (sd o x ws q) k) 5 = some 0 ∨ (ws = [.give 1 1, .move 1 5 1] ∧ look (dirK (sd o x ws q) k) 5 = some 1) := by
  unfold dirK sd
  dsimp only
  rcases hws with rfl | rfl
  · match k with
    | 0 => exact .inl rfl
    | 1 => exact .inl rfl
    | k + 2 => rw [List.take_of_length_le (by simp)]; exact .inl rfl
  · match k with
    | 0 => exact .inl rfl
    | 1 => exact .inl rfl
    | 2 => exact .inr ⟨rfl, rfl⟩
    | k + 3 => rw [List.take_of_length_le (by simp)]; exact .inr ⟨rfl, rfl⟩

theorem sd_ok (o : List UInt8) (x : Fl) (hx : x.k ≤ x.b.length) (q : Int) (ws : List Ch) (hws : ws = [.give 1 1] ∨ ws = [.give 1 1, .move 1 5 1]) : OkD (sd o x ws q) := by
  have h1 : OkL 2 [(5, 0)] := ⟨List.pairwise_singleton _ _, List.pairwise_singleton _ _, fun p hp => by rw [List.mem_singleton.1 hp]; decide⟩
  have h2 : OkL 2 [(1, 1), (5, 0)] := ⟨by unfold Rising; decide, by unfold Apart; decide, fun p hp => by
    rcases List.mem_cons.1 hp with rfl | hp
    · decide
    · rw [List.mem_singleton.1 hp]; decide⟩
  have h3 : OkL 2 [(5, 1)] := ⟨List.pairwise_singleton _ _, List.pairwise_singleton _ _, fun p hp => by rw [List.mem_singleton.1 hp]; decide⟩
  refine ⟨fun k => ?_, fun c hc => ?_, fun y hy => ?_⟩
  · show OkL 2 ((ws.take k).foldl chD [(5, 0)])
    rcases hws with rfl | rfl
    · match k with
      | 0 => exact h1
      | 1 => exact h2
      | k + 2 => rw [List.take_of_length_le (by simp)]; exact h2
    · match k with
      | 0 => exact h1
      | 1 => exact h2
      | 2 => exact h3
      | k + 3 => rw [List.take_of_length_le (by simp)]; exact h3
  · show okCh 2 c
    rcases hws with rfl | rfl
    · rw [List.mem_singleton.1 hc]
      exact ⟨by decide, by decide⟩
    · rcases List.mem_cons.1 hc with rfl | hc
      · exact ⟨by decide, by decide⟩
      · rw [List.mem_singleton.1 hc]
        exact ⟨by decide, by decide, by decide, by decide⟩
  · have hy' : y ∈ [(⟨o, o.length⟩ : Fl), x] := hy
    rcases List.mem_cons.1 hy' with rfl | hy
    · exact Nat.le_refl _
    · rw [List.mem_singleton.1 hy]; exact hx

/-- The four calls, one behind the other. -/
def swA (o nw : List UInt8) (q : Int) : Dk × Int := appendD (kd 5 o q) 1 nw
def swB (o nw : List UInt8) (q : Int) : Dk × Int := syncD (swA o nw q).1 1
def swC (o nw : List UInt8) (q : Int) : Dk × Int := renameD (swB o nw q).1 1 5
def swS (o nw : List UInt8) (q : Int) : Dk × Int := syncDirD (swC o nw q).1

theorem swap_math {o nw : List UInt8} (ho : o.length ≤ 300) (hn : nw.length ≤ 300) (q : Int) (hq : 0 ≤ q) (names : Int) (keep : List Int) :
    ∃ x, readD (crashD (swS o nw q).1 names keep) 5 = (x, 0) ∧ (x = nw ∨ x = o) ∧ ((swA o nw q).2 = 0 → (swB o nw q).2 = 0 → (swC o nw q).2 = 0 → (swS o nw q).2 = 0 → x = nw) := by
  have hm : mayN 5 = true := by decide
  by_cases h0 : q = 0
  · have e1 : swA o nw q = (kd 5 o q, 11) := dark_append h0 _ _
    have e2 : swB o nw q = (kd 5 o q, 11) := by unfold swB; rw [e1]; exact dark_sync h0 _
    have e3 : swC o nw q = (kd 5 o q, 11) := by unfold swC; rw [e2]; exact dark_rename h0 _ _
    have e4 : swS o nw q = (kd 5 o q, 11) := by unfold swS; rw [e3]; exact dark_syncDir h0
    obtain ⟨c, hc⟩ := crash_read (kd_ok hm o q) names keep (n := 5) (f := 0) (by unfold dirK; rw [show (kd 5 o q).waits = [] from rfl, List.take_nil]; exact look_one 5 0)
    rw [cutF_full rfl] at hc
    rw [e4, e1]
    exact ⟨o, hc, .inr rfl, fun h => by simp at h⟩
  have e1 : swA o nw q = (sd o ⟨nw, 0⟩ [.give 1 1] (tick q), 0) := by
    have hu : usedD (kd 5 o q) = o.length := by show o.length + 0 = _; omega
    have hl : look (dirD (kd 5 o q)) 1 = none := rfl
    unfold swA appendD
    rw [if_neg (show (kd 5 o q).power ≠ 0 from h0), if_neg (by decide), if_neg (by rw [hu]; show ¬ ((o.length : Int) + nw.length > 10000); omega), hl]
    rfl
  have ht : tick q = q - 1 := if_pos (by omega)
  by_cases h1 : q = 1
  · have hz : tick q = 0 := by omega
    rw [hz] at e1
    have e2 : swB o nw q = (sd o ⟨nw, 0⟩ [.give 1 1] 0, 11) := by unfold swB; rw [e1]; exact dark_sync rfl _
    have e3 : swC o nw q = (sd o ⟨nw, 0⟩ [.give 1 1] 0, 11) := by unfold swC; rw [e2]; exact dark_rename rfl _ _
    have e4 : swS o nw q = (sd o ⟨nw, 0⟩ [.give 1 1] 0, 11) := by unfold swS; rw [e3]; exact dark_syncDir rfl
    rw [e4, e2]
    rcases swap_look o ⟨nw, 0⟩ 0 [.give 1 1] (.inl rfl) (shareN names (sd o ⟨nw, 0⟩ [.give 1 1] 0).waits.length) with hl | ⟨hl, _⟩
    · obtain ⟨c, hc⟩ := crash_read (sd_ok o ⟨nw, 0⟩ (Nat.zero_le _) 0 _ (.inl rfl)) names keep hl
      rw [show fl (sd o ⟨nw, 0⟩ [.give 1 1] 0).files 0 = ⟨o, o.length⟩ from rfl, cutF_full rfl] at hc
      exact ⟨o, hc, .inr rfl, fun _ h => by simp at h⟩
    · cases hl
  have e2 : swB o nw q = (sd o ⟨nw, nw.length⟩ [.give 1 1] (tick (tick q)), 0) := by
    unfold swB
    rw [e1]
    unfold syncD
    rw [if_neg (by show tick q ≠ 0; omega)]
    rfl
  have ht2 : tick (tick q) = q - 2 := by rw [ht]; show (if q - 1 > 0 then q - 1 - 1 else q - 1) = _; rw [if_pos (by omega)]; omega
  by_cases h2 : q = 2
  · have hz : tick (tick q) = 0 := by omega
    rw [hz] at e2
    have e3 : swC o nw q = (sd o ⟨nw, nw.length⟩ [.give 1 1] 0, 11) := by unfold swC; rw [e2]; exact dark_rename rfl _ _
    have e4 : swS o nw q = (sd o ⟨nw, nw.length⟩ [.give 1 1] 0, 11) := by unfold swS; rw [e3]; exact dark_syncDir rfl
    rw [e4, e3]
    rcases swap_look o ⟨nw, nw.length⟩ 0 [.give 1 1] (.inl rfl) (shareN names (sd o ⟨nw, nw.length⟩ [.give 1 1] 0).waits.length) with hl | ⟨hl, _⟩
    · obtain ⟨c, hc⟩ := crash_read (sd_ok o ⟨nw, nw.length⟩ (Nat.le_refl _) 0 _ (.inl rfl)) names keep hl
      rw [show fl (sd o ⟨nw, nw.length⟩ [.give 1 1] 0).files 0 = ⟨o, o.length⟩ from rfl, cutF_full rfl] at hc
      exact ⟨o, hc, .inr rfl, fun _ _ h => by simp at h⟩
    · cases hl
  have e3 : swC o nw q = (sd o ⟨nw, nw.length⟩ [.give 1 1, .move 1 5 1] (tick (tick (tick q))), 0) := by
    unfold swC
    rw [e2]
    unfold renameD
    rw [if_neg (by show tick (tick q) ≠ 0; omega)]
    rfl
  have ht3 : tick (tick (tick q)) = q - 3 := by rw [ht2]; show (if q - 2 > 0 then q - 2 - 1 else q - 2) = _; rw [if_pos (by omega)]; omega
  by_cases h3 : q = 3
  · have hz : tick (tick (tick q)) = 0 := by omega
    rw [hz] at e3
    have e4 : swS o nw q = (sd o ⟨nw, nw.length⟩ [.give 1 1, .move 1 5 1] 0, 11) := by unfold swS; rw [e3]; exact dark_syncDir rfl
    rw [e4]
    rcases swap_look o ⟨nw, nw.length⟩ 0 [.give 1 1, .move 1 5 1] (.inr rfl) (shareN names (sd o ⟨nw, nw.length⟩ [.give 1 1, .move 1 5 1] 0).waits.length) with hl | ⟨_, hl⟩
    · obtain ⟨c, hc⟩ := crash_read (sd_ok o ⟨nw, nw.length⟩ (Nat.le_refl _) 0 _ (.inr rfl)) names keep hl
      rw [show fl (sd o ⟨nw, nw.length⟩ [.give 1 1, .move 1 5 1] 0).files 0 = ⟨o, o.length⟩ from rfl, cutF_full rfl] at hc
      exact ⟨o, hc, .inr rfl, fun _ _ _ h => by simp at h⟩
    · obtain ⟨c, hc⟩ := crash_read (sd_ok o ⟨nw, nw.length⟩ (Nat.le_refl _) 0 _ (.inr rfl)) names keep hl
      rw [show fl (sd o ⟨nw, nw.length⟩ [.give 1 1, .move 1 5 1] 0).files 1 = ⟨nw, nw.length⟩ from rfl, cutF_full rfl] at hc
      exact ⟨nw, hc, .inl rfl, fun _ _ _ _ => rfl⟩
  have e4 : swS o nw q = (⟨10000, [⟨o, o.length⟩, ⟨nw, nw.length⟩], [(5, 1)], [], tick (tick (tick (tick q)))⟩, 0) := by
    unfold swS
    rw [e3]
    unfold syncDirD
    rw [if_neg (by show tick (tick (tick q)) ≠ 0; omega)]
    rfl
  rw [e4]
  have hok : OkD ⟨10000, [⟨o, o.length⟩, ⟨nw, nw.length⟩], [(5, 1)], [], tick (tick (tick (tick q)))⟩ := by
    have := (sd_ok o ⟨nw, nw.length⟩ (Nat.le_refl _) (tick (tick (tick q))) _ (.inr rfl)).syncDir
    unfold syncDirD at this
    rw [if_neg (by show tick (tick (tick q)) ≠ 0; omega)] at this
    exact this
  obtain ⟨c, hc⟩ := crash_read hok names keep (n := 5) (f := 1) (by show look ((([] : List Ch).take _).foldl chD [(5, 1)]) 5 = _; rw [List.take_nil]; rfl)
  rw [show fl (⟨10000, [⟨o, o.length⟩, ⟨nw, nw.length⟩], [(5, 1)], [], tick (tick (tick (tick q)))⟩ : Dk).files 1 = ⟨nw, nw.length⟩ from rfl, cutF_full rfl] at hc
  exact ⟨nw, hc, .inl rfl, fun _ _ _ _ => rfl⟩

end Go.Proofs.Ytfphllhcoiblkaa
