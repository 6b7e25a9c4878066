/- Schema: records as bytes in three versions, over plain lists, and what follows. -/
import Derived.Test.YtgmdhlchdjlgnabCodecPlain
namespace Go.Proofs.Ytgmdhlchdjlgnab

/-- A record. -/
structure Rec where
  idx : Int
  proc : Int
  seq : Int
  op : Opn
  resp : Int

def zeroR : Rec := ⟨0, 0, 0, ⟨0, 0, 0⟩, 0⟩

def FitsR (r : Rec) : Prop := FitsO r.op ∧ 0 ≤ r.idx ∧ r.idx < 4611686018427387904 ∧ 0 ≤ r.seq ∧ r.seq < 4611686018427387904 ∧ 0 ≤ r.proc ∧ r.proc ≤ 64 ∧ -1125899906842624 ≤ r.resp ∧ r.resp ≤ 1125899906842624

instance (r : Rec) : Decidable (FitsR r) := by unfold FitsR; infer_instance

/-- A record as a version can tell it. -/
def upgR (v : Int) (r : Rec) : Rec := ⟨r.idx, r.proc, if v < 2 then 0 else r.seq, r.op, if v < 3 then 0 else r.resp⟩

/-- Has a version a field? -/
def hasV (v f : Nat) : Prop := f = 1 ∨ f = 2 ∨ f = 4 ∨ (f = 3 ∧ 2 ≤ v) ∨ (f = 5 ∧ v = 3)

instance (v f : Nat) : Decidable (hasV v f) := by unfold hasV; infer_instance

/-- A field's bytes. -/
def bytesF (r : Rec) (f : Nat) : List UInt8 :=
  if f = 1 then Lib.uvarint r.idx.toNat else if f = 2 then Lib.uvarint r.proc.toNat else if f = 3 then Lib.uvarint r.seq.toNat
  else if f = 4 then putOpL r.op else Lib.uvarint (Lib.zigzag r.resp)

/-- A record with another's field. -/
def setF (src r : Rec) (f : Nat) : Rec :=
  if f = 1 then { r with idx := src.idx } else if f = 2 then { r with proc := src.proc } else if f = 3 then { r with seq := src.seq }
  else if f = 4 then { r with op := src.op } else { r with resp := src.resp }

/-- A record with the value that bytes begin with, and how many these are. -/
def valueF (r : Rec) (f : Nat) (l : List UInt8) : Rec × Nat :=
  if f = 1 then ({ r with idx := ((dec62 l).1 : Int) }, (dec62 l).2) else if f = 2 then ({ r with proc := ((dec62 l).1 : Int) }, (dec62 l).2)
  else if f = 3 then ({ r with seq := ((dec62 l).1 : Int) }, (dec62 l).2) else if f = 4 then ({ r with op := (getOpL l).1 }, (getOpL l).2)
  else ({ r with resp := zag (dec64 l).1 }, (dec64 l).2)

theorem ne_nil_of {l : List UInt8} (h : 0 < l.length) : l ≠ [] := by intro e; rw [e] at h; simp at h

set_option linter.unusedVariables false in
/-- The fields, one by one, up to the end: the record and how many there were, or the error. -/
def walkV (v : Nat) (l : List UInt8) (last : Int) (found : Nat) (r : Rec) : Except Int (Rec × Nat) :=
  if hl : l = [] then .ok (r, found)
  else if hk : (dec62 l).2 = 0 ∨ ((dec62 l).1 : Int) ≤ last then .error 3
  else if hasV v (dec62 l).1 then
    if (valueF r (dec62 l).1 (l.drop (dec62 l).2)).2 = 0 then .error 3
    else walkV v (l.drop ((dec62 l).2 + (valueF r (dec62 l).1 (l.drop (dec62 l).2)).2)) (dec62 l).1 (found + 1) (valueF r (dec62 l).1 (l.drop (dec62 l).2)).1
  else if (dec62 l).1 < 16 ∨ v = 3 then .error 7
  else if (dec62 (l.drop (dec62 l).2)).2 = 0 ∨ l.length < (dec62 l).2 + (dec62 (l.drop (dec62 l).2)).2 + (dec62 (l.drop (dec62 l).2)).1 then .error 3
  else walkV v (l.drop ((dec62 l).2 + (dec62 (l.drop (dec62 l).2)).2 + (dec62 (l.drop (dec62 l).2)).1)) (dec62 l).1 found r
termination_by l.length
decreasing_by
  all_goals
    have h1 : l.length ≠ 0 := by simpa using hl
    have h2 : (dec62 l).2 ≠ 0 := fun e => hk (.inl e)
    rw [List.length_drop]
    omega

/-- What bytes are: a record, or the error. -/
def decR (l : List UInt8) : Rec × Int :=
  if l = [] then (zeroR, 2)
  else if (dec62 l).2 = 0 then (zeroR, 3)
  else if (dec62 l).1 < 1 ∨ 3 < (dec62 l).1 then (zeroR, 6)
  else match walkV (dec62 l).1 (l.drop (dec62 l).2) (-1) 0 zeroR with
    | .error e => (zeroR, e)
    | .ok (r, found) => if found ≠ (dec62 l).1 + 2 then (zeroR, 7) else if FitsR r then (r, 0) else (zeroR, 1)

/-- The fields of a version. -/
def fieldsV (v : Int) : List Nat := if v = 1 then [1, 2, 4] else if v = 2 then [1, 2, 3, 4] else [1, 2, 3, 4, 5]

def encFs (r : Rec) : List Nat → List UInt8
  | [] => []
  | f :: fs => Lib.uvarint f ++ (bytesF r f ++ encFs r fs)

/-- A record's bytes. -/
def encR (v : Int) (r : Rec) : List UInt8 := Lib.uvarint v.toNat ++ encFs r (fieldsV v)

theorem bytesF_ne (r : Rec) (f : Nat) : (bytesF r f).length ≠ 0 := by
  unfold bytesF putOpL
  repeat' split
  all_goals
    have := Lib.uvarint_pos r.idx.toNat
    have := Lib.uvarint_pos r.proc.toNat
    have := Lib.uvarint_pos r.seq.toNat
    have := Lib.uvarint_pos r.op.code.toNat
    have := Lib.uvarint_pos (Lib.zigzag r.resp)
    try simp only [List.length_append]
    omega

theorem fitsR_resp {r : Rec} (h : FitsR r) : I64 r.resp := i64_small (by have := h.2.2.2.2.2.2.2.1; omega) (by have := h.2.2.2.2.2.2.2.2; omega)

/-- A field that was put is read. -/
theorem valueF_put {src : Rec} (h : FitsR src) (r : Rec) (f : Nat) (t : List UInt8) : valueF r f (bytesF src f ++ t) = (setF src r f, (bytesF src f).length) := by
  have hr := fitsR_resp h
  obtain ⟨h1, h2, h3, h4, h5, h6, h7, h8, h9⟩ := h
  unfold valueF bytesF setF
  repeat' split
  · rw [dec62_uvarint _ _ (by omega), Int.toNat_of_nonneg h2]
  · rw [dec62_uvarint _ _ (by omega), Int.toNat_of_nonneg h6]
  · rw [dec62_uvarint _ _ (by omega), Int.toNat_of_nonneg h4]
  · rw [getOp_put _ h1]
  · rw [dec64_uvarint _ _ (zig_lt hr), zag_zigzag _ hr.1 hr.2]

theorem getOp_cut {o : Opn} (h : FitsO o) (c : Nat) (hc : c < (putOpL o).length) : (getOpL ((putOpL o).take c)).2 = 0 := by
  by_cases h0 : (getOpL ((putOpL o).take c)).2 = 0
  · exact h0
  · exfalso
    obtain ⟨h1, h2⟩ := getOp_sound h0
    have h3 := getOp_le ((putOpL o).take c)
    rw [List.length_take] at h3
    rw [List.take_take] at h2
    have h4 : putOpL o = putOpL (getOpL ((putOpL o).take c)).1 ++ (putOpL o).drop (min (getOpL ((putOpL o).take c)).2 c) := by
      rw [h2, List.take_append_drop]
    have h5 := putOp_apart h1 h h4
    rw [h5] at h2
    have h6 := congrArg List.length h2
    rw [List.length_take] at h6
    omega

/-- A field that is cut off is none. -/
theorem valueF_cut {src : Rec} (h : FitsR src) (r : Rec) (f c : Nat) (hc : c < (bytesF src f).length) : (valueF r f ((bytesF src f).take c)).2 = 0 := by
  have hr := fitsR_resp h
  obtain ⟨h1, h2, h3, h4, h5, h6, h7, h8, h9⟩ := h
  unfold valueF
  unfold bytesF at hc ⊢
  repeat' split
  · rename_i e
    rw [if_pos e] at hc
    rw [dec62_cut _ c (by omega) hc]
  · rename_i e1 e
    rw [if_neg e1, if_pos e] at hc
    rw [dec62_cut _ c (by omega) hc]
  · rename_i e1 e2 e
    rw [if_neg e1, if_neg e2, if_pos e] at hc
    rw [dec62_cut _ c (by omega) hc]
  · rename_i e1 e2 e3 e
    rw [if_neg e1, if_neg e2, if_neg e3, if_pos e] at hc
    exact getOp_cut h1 c hc
  · rename_i e1 e2 e3 e4
    rw [if_neg e1, if_neg e2, if_neg e3, if_neg e4] at hc
    rw [dec64_cut _ c (zig_lt hr) hc]

/-- One field that the version has, read. -/
theorem walk_has {v f : Nat} (hf : hasV v f) {l : List UInt8} {last : Int} {found : Nat} {r : Rec} (hlt : last < f) (hl : l ≠ []) {k : Nat} (hd : dec62 l = (f, k)) (hk : k ≠ 0) :
    walkV v l last found r = if (valueF r f (l.drop k)).2 = 0 then .error 3 else walkV v (l.drop (k + (valueF r f (l.drop k)).2)) f (found + 1) (valueF r f (l.drop k)).1 := by
  rw [walkV, dif_neg hl, dif_neg (by rw [hd]; simp only; omega), hd, if_pos hf]

theorem small_f {v f : Nat} (h : hasV v f) : 1 ≤ f ∧ f ≤ 5 := by unfold hasV at h; omega

theorem walk_field {src : Rec} (hs : FitsR src) {v f : Nat} (hf : hasV v f) (t : List UInt8) {last : Int} (hlt : last < f) (found : Nat) (r : Rec) :
    walkV v (Lib.uvarint f ++ (bytesF src f ++ t)) last found r = walkV v t f (found + 1) (setF src r f) := by
  have hb := small_f hf
  have hp := Lib.uvarint_pos f
  have hd := dec62_uvarint f (bytesF src f ++ t) (by omega)
  rw [walk_has hf hlt (ne_nil_of (by rw [List.length_append]; omega)) hd (by omega), List.drop_left, valueF_put hs, if_neg (bytesF_ne src f)]
  simp only
  rw [← List.drop_drop, List.drop_left, List.drop_left]

/-- Rising from a number on. -/
def Rising : Int → List Nat → Prop
  | _, [] => True
  | a, f :: fs => a < f ∧ Rising f fs

def lastOf : Int → List Nat → Int
  | a, [] => a
  | _, f :: fs => lastOf f fs

theorem walk_fs {src : Rec} (hs : FitsR src) {v : Nat} (t : List UInt8) : ∀ (fs : List Nat) (last : Int) (found : Nat) (r : Rec), Rising last fs → (∀ f ∈ fs, hasV v f) →
    walkV v (encFs src fs ++ t) last found r = walkV v t (lastOf last fs) (found + fs.length) (fs.foldl (setF src) r)
  | [], _, _, _, _, _ => rfl
  | f :: fs, last, found, r, hr, hh => by
    rw [encFs, List.append_assoc, List.append_assoc, walk_field hs (hh f (by simp)) _ hr.1, walk_fs hs t fs f (found + 1) _ hr.2 (fun g hg => hh g (by simp [hg]))]
    simp only [lastOf, List.length_cons, List.foldl_cons]
    rw [show found + 1 + fs.length = found + (fs.length + 1) by omega]

theorem walk_nil (v : Nat) (last : Int) (found : Nat) (r : Rec) : walkV v [] last found r = .ok (r, found) := by
  rw [walkV, dif_pos rfl]

/-- Fields that are cut off: an error, or fewer. -/
theorem walk_cut {src : Rec} (hs : FitsR src) {v : Nat} : ∀ (fs : List Nat) (c : Nat) (last : Int) (found : Nat) (r : Rec), Rising last fs → (∀ f ∈ fs, hasV v f) → c < (encFs src fs).length →
    walkV v ((encFs src fs).take c) last found r = .error 3 ∨ ∃ x n, walkV v ((encFs src fs).take c) last found r = .ok (x, n) ∧ n < found + fs.length
  | [], c, _, _, _, _, _, hc => by simp [encFs] at hc
  | f :: fs, c, last, found, r, hr, hh, hc => by
    have hf := hh f (by simp)
    have hb := small_f hf
    have hp := Lib.uvarint_pos f
    by_cases c0 : c = 0
    · subst c0
      rw [List.take_zero, walk_nil]
      exact .inr ⟨r, found, rfl, by simp⟩
    · by_cases c1 : c < (Lib.uvarint f).length
      · refine .inl ?_
        rw [encFs, List.take_append_of_le_length (by omega)]
        have hd := dec62_cut f c (by omega) c1
        rw [walkV, dif_neg (ne_nil_of (by rw [List.length_take]; omega)), dif_pos (by rw [hd]; exact .inl rfl)]
      · have e : (encFs src (f :: fs)).take c = Lib.uvarint f ++ (bytesF src f ++ encFs src fs).take (c - (Lib.uvarint f).length) := by
          rw [encFs, List.take_append, List.take_of_length_le (by omega)]
        rw [e]
        have hd := dec62_uvarint f ((bytesF src f ++ encFs src fs).take (c - (Lib.uvarint f).length)) (by omega)
        have hne : Lib.uvarint f ++ (bytesF src f ++ encFs src fs).take (c - (Lib.uvarint f).length) ≠ [] := ne_nil_of (by rw [List.length_append]; omega)
        by_cases c2 : c - (Lib.uvarint f).length < (bytesF src f).length
        · refine .inl ?_
          rw [walk_has hf hr.1 hne hd (by omega), List.drop_left, List.take_append_of_le_length (by omega), if_pos (valueF_cut hs r f _ c2)]
        · have e2 : (bytesF src f ++ encFs src fs).take (c - (Lib.uvarint f).length) = bytesF src f ++ (encFs src fs).take (c - (Lib.uvarint f).length - (bytesF src f).length) := by
            rw [List.take_append, List.take_of_length_le (by omega)]
          rw [e2, walk_field hs hf _ hr.1]
          have hc' : c - (Lib.uvarint f).length - (bytesF src f).length < (encFs src fs).length := by
            rw [encFs, List.length_append, List.length_append] at hc
            omega
          rcases walk_cut hs fs _ f (found + 1) (setF src r f) hr.2 (fun g hg => hh g (by simp [hg])) hc' with h | ⟨x, n, h, hn⟩
          · exact .inl h
          · exact .inr ⟨x, n, h, by simp only [List.length_cons]; omega⟩

theorem fields_ok {v : Int} (h1 : 1 ≤ v) (h3 : v ≤ 3) : Rising (-1) (fieldsV v) ∧ (∀ f ∈ fieldsV v, hasV v.toNat f) ∧ (fieldsV v).length = v.toNat + 2 := by
  have hv : v = 1 ∨ v = 2 ∨ v = 3 := by omega
  rcases hv with rfl | rfl | rfl
  · refine ⟨by simp [fieldsV, Rising], ?_, rfl⟩
    intro f hf
    simp [fieldsV] at hf
    unfold hasV
    omega
  · refine ⟨by simp [fieldsV, Rising], ?_, rfl⟩
    intro f hf
    simp [fieldsV] at hf
    unfold hasV
    omega
  · refine ⟨by simp [fieldsV, Rising], ?_, rfl⟩
    intro f hf
    simp [fieldsV] at hf
    unfold hasV
    omega

theorem fields_set {v : Int} (h1 : 1 ≤ v) (h3 : v ≤ 3) (r : Rec) : (fieldsV v).foldl (setF r) zeroR = upgR v r := by
  have hv : v = 1 ∨ v = 2 ∨ v = 3 := by omega
  rcases hv with rfl | rfl | rfl <;> rfl

theorem upg_fits {v : Int} {r : Rec} (h : FitsR r) : FitsR (upgR v r) := by
  obtain ⟨h1, h2, h3, h4, h5, h6, h7, h8, h9⟩ := h
  refine ⟨h1, h2, h3, ?_, ?_, h6, h7, ?_, ?_⟩
  all_goals
    simp only [upgR]
    split <;> omega

theorem decR_enc {v : Int} (h1 : 1 ≤ v) (h3 : v ≤ 3) {r : Rec} (hr : FitsR r) : decR (encR v r) = (upgR v r, 0) := by
  obtain ⟨a, b, c⟩ := fields_ok h1 h3
  have hp := Lib.uvarint_pos v.toNat
  have hd := dec62_uvarint v.toNat (encFs r (fieldsV v)) (by omega)
  have hw := walk_fs hr [] (fieldsV v) (-1) 0 zeroR a b
  rw [List.append_nil, walk_nil, fields_set h1 h3] at hw
  unfold decR
  rw [if_neg (ne_nil_of (by unfold encR; rw [List.length_append]; omega))]
  unfold encR
  rw [hd]
  simp only
  rw [if_neg (by omega), if_neg (by omega), List.drop_left, hw]
  simp only
  rw [if_neg (by omega), if_pos (upg_fits hr)]

/-- Bytes that are cut off are no record. -/
theorem decR_cut {v : Int} (h1 : 1 ≤ v) (h3 : v ≤ 3) {r : Rec} (hr : FitsR r) (c : Nat) (hc : c < (encR v r).length) : (decR ((encR v r).take c)).2 ≠ 0 := by
  obtain ⟨a, b, n⟩ := fields_ok h1 h3
  have hp := Lib.uvarint_pos v.toNat
  have hv1 : (Lib.uvarint v.toNat).length = 1 := by rw [Lib.uvarint_small (by omega)]; rfl
  by_cases c0 : c = 0
  · subst c0
    rw [List.take_zero]
    simp [decR]
  · have e : (encR v r).take c = Lib.uvarint v.toNat ++ (encFs r (fieldsV v)).take (c - (Lib.uvarint v.toNat).length) := by
      unfold encR
      rw [List.take_append, List.take_of_length_le (by omega)]
    have hd := dec62_uvarint v.toNat ((encFs r (fieldsV v)).take (c - (Lib.uvarint v.toNat).length)) (by omega)
    have hc' : c - (Lib.uvarint v.toNat).length < (encFs r (fieldsV v)).length := by
      unfold encR at hc
      rw [List.length_append] at hc
      omega
    have hw := walk_cut hr (fieldsV v) _ (-1) 0 zeroR a b hc'
    rw [e]
    unfold decR
    rw [if_neg (ne_nil_of (by rw [List.length_append]; omega)), hd]
    simp only
    rw [if_neg (by omega), if_neg (by omega), List.drop_left]
    rcases hw with h | ⟨x, m, h, hm⟩
    · rw [h]
      show (3 : Int) ≠ 0
      decide
    · rw [h]
      simp only
      rw [if_pos (by omega)]
      decide

theorem dec62_take {l : List UInt8} (h : (dec62 l).2 ≠ 0) : Lib.uvarint (dec62 l).1 = l.take (dec62 l).2 := by
  rcases dec62_cases l with e | e
  · rw [e] at h; exact absurd rfl h
  · exact e.2.2.2.symm

theorem dec64_take {l : List UInt8} (h : (dec64 l).2 ≠ 0) : Lib.uvarint (dec64 l).1 = l.take (dec64 l).2 := by
  rcases dec64_cases l with e | e
  · rw [e] at h; exact absurd rfl h
  · exact e.2.2.2.symm

/-- A field that is read: its bytes, and no other field changes. -/
theorem value_sound (r : Rec) (f : Nat) (l : List UInt8) (hf : 1 ≤ f ∧ f ≤ 5) (h : (valueF r f l).2 ≠ 0) :
    bytesF (valueF r f l).1 f = l.take (valueF r f l).2 ∧ ∀ g : Nat, g ≠ f → 1 ≤ g → g ≤ 5 → bytesF (valueF r f l).1 g = bytesF r g := by
  have hc : f = 1 ∨ f = 2 ∨ f = 3 ∨ f = 4 ∨ f = 5 := by omega
  rcases hc with rfl | rfl | rfl | rfl | rfl
  · refine ⟨?_, fun g hg g1 g5 => ?_⟩
    · exact dec62_take h
    · have hg : g = 2 ∨ g = 3 ∨ g = 4 ∨ g = 5 := by omega
      rcases hg with rfl | rfl | rfl | rfl <;> rfl
  · refine ⟨?_, fun g hg g1 g5 => ?_⟩
    · exact dec62_take h
    · have hg : g = 1 ∨ g = 3 ∨ g = 4 ∨ g = 5 := by omega
      rcases hg with rfl | rfl | rfl | rfl <;> rfl
  · refine ⟨?_, fun g hg g1 g5 => ?_⟩
    · exact dec62_take h
    · have hg : g = 1 ∨ g = 2 ∨ g = 4 ∨ g = 5 := by omega
      rcases hg with rfl | rfl | rfl | rfl <;> rfl
  · refine ⟨?_, fun g hg g1 g5 => ?_⟩
    · exact (getOp_sound h).2
    · have hg : g = 1 ∨ g = 2 ∨ g = 3 ∨ g = 5 := by omega
      rcases hg with rfl | rfl | rfl | rfl <;> rfl
  · refine ⟨?_, fun g hg g1 g5 => ?_⟩
    · show Lib.uvarint (Lib.zigzag (zag (dec64 l).1)) = _
      rw [zigzag_zag]
      exact dec64_take h
    · have hg : g = 1 ∨ g = 2 ∨ g = 3 ∨ g = 4 := by omega
      rcases hg with rfl | rfl | rfl | rfl <;> rfl

/-- What is read in the newest version is what was put. -/
theorem walk3_sound : ∀ (n : Nat) (l : List UInt8) (last : Int) (found : Nat) (r r' : Rec) (found' : Nat), l.length ≤ n → walkV 3 l last found r = .ok (r', found') →
    ∃ fs, Rising last fs ∧ (∀ f ∈ fs, 1 ≤ f ∧ f ≤ 5) ∧ found' = found + fs.length ∧ l = encFs r' fs ∧ ∀ g : Nat, (g : Int) ≤ last → 1 ≤ g → g ≤ 5 → bytesF r' g = bytesF r g := by
  intro n
  induction n with
  | zero =>
    intro l last found r r' found' hn h
    have hl : l = [] := List.eq_nil_of_length_eq_zero (by omega)
    subst hl
    rw [walk_nil] at h
    injection h with h
    injection h with h1 h2
    subst h1
    subst h2
    exact ⟨[], trivial, by simp, by simp, rfl, fun _ _ _ _ => rfl⟩
  | succ n ih =>
    intro l last found r r' found' hn h
    by_cases hl : l = []
    · subst hl
      rw [walk_nil] at h
      injection h with h
      injection h with h1 h2
      subst h1
      subst h2
      exact ⟨[], trivial, by simp, by simp, rfl, fun _ _ _ _ => rfl⟩
    · rw [walkV, dif_neg hl] at h
      by_cases hk : (dec62 l).2 = 0 ∨ ((dec62 l).1 : Int) ≤ last
      · rw [dif_pos hk] at h
        cases h
      · rw [dif_neg hk] at h
        by_cases hh : hasV 3 (dec62 l).1
        · rw [if_pos hh] at h
          by_cases hm : (valueF r (dec62 l).1 (l.drop (dec62 l).2)).2 = 0
          · rw [if_pos hm] at h
            cases h
          · rw [if_neg hm] at h
            have hb := small_f hh
            obtain ⟨fs, i1, i2, i3, i4, i5⟩ := ih _ _ _ _ _ _ (by rw [List.length_drop]; omega) h
            have hc : l.take (dec62 l).2 = Lib.uvarint (dec62 l).1 := by
              rcases dec62_cases l with e | e
              · rw [e] at hk; exact absurd (.inl rfl) hk
              · exact e.2.2.2
            have hv := value_sound r (dec62 l).1 (l.drop (dec62 l).2) hb hm
            have hs := i5 (dec62 l).1 (Int.le_refl _) hb.1 hb.2
            refine ⟨(dec62 l).1 :: fs, ⟨by omega, i1⟩, ?_, by rw [i3]; simp only [List.length_cons]; omega, ?_, ?_⟩
            · intro f hf
              rcases List.mem_cons.1 hf with e | e
              · rw [e]; exact hb
              · exact i2 f e
            · rw [encFs, ← i4, hs, hv.1, ← hc, ← List.drop_drop, List.take_append_drop, List.take_append_drop]
            · intro g hg g1 g5
              rw [i5 g (by omega) g1 g5]
              exact hv.2 g (by omega) g1 g5
        · rw [if_neg hh, if_pos (.inr rfl)] at h
          cases h

theorem rising5 {fs : List Nat} (h1 : Rising (-1) fs) (h2 : ∀ f ∈ fs, 1 ≤ f ∧ f ≤ 5) (h3 : fs.length = 5) : fs = [1, 2, 3, 4, 5] := by
  match fs, h1, h2, h3 with
  | [a, b, c, d, e], ⟨i1, i2, i3, i4, i5, _⟩, h2, _ =>
    have ha := h2 a (by simp)
    have he := h2 e (by simp)
    have e1 : a = 1 := by omega
    have e2 : b = 2 := by omega
    have e3 : c = 3 := by omega
    have e4 : d = 4 := by omega
    have e5 : e = 5 := by omega
    rw [e1, e2, e3, e4, e5]

theorem walk_codes (v : Nat) : ∀ (n : Nat) (l : List UInt8) (last : Int) (found : Nat) (r : Rec) (e : Int), l.length ≤ n → walkV v l last found r = .error e → e = 3 ∨ e = 7 := by
  intro n
  induction n with
  | zero =>
    intro l last found r e hn h
    have hl : l = [] := List.eq_nil_of_length_eq_zero (by omega)
    subst hl
    rw [walk_nil] at h
    cases h
  | succ n ih =>
    intro l last found r e hn h
    by_cases hl : l = []
    · subst hl
      rw [walk_nil] at h
      cases h
    · rw [walkV, dif_neg hl] at h
      by_cases hk : (dec62 l).2 = 0 ∨ ((dec62 l).1 : Int) ≤ last
      · rw [dif_pos hk] at h
        injection h with h
        exact .inl h.symm
      · rw [dif_neg hk] at h
        split at h
        · split at h
          · injection h with h
            exact .inl h.symm
          · exact ih _ _ _ _ _ (by rw [List.length_drop]; omega) h
        · split at h
          · injection h with h
            exact .inr h.symm
          · split at h
            · injection h with h
              exact .inl h.symm
            · exact ih _ _ _ _ _ (by rw [List.length_drop]; omega) h

/-- With an error no record; else one that fits. -/
theorem decR_codes (l : List UInt8) : ((decR l).2 = 0 ∧ FitsR (decR l).1) ∨ ((decR l).2 ≠ 0 ∧ (decR l).1 = zeroR) := by
  unfold decR
  split
  · exact .inr ⟨by simp, rfl⟩
  split
  · exact .inr ⟨by simp, rfl⟩
  split
  · exact .inr ⟨by simp, rfl⟩
  split
  · rename_i e h
    rcases walk_codes _ _ _ _ _ _ _ (Nat.le_refl _) h with h | h
    · exact .inr ⟨by rw [h]; decide, rfl⟩
    · exact .inr ⟨by rw [h]; decide, rfl⟩
  · split
    · exact .inr ⟨by simp, rfl⟩
    · split
      · rename_i h
        exact .inl ⟨rfl, h⟩
      · exact .inr ⟨by simp, rfl⟩

/-- What is decoded of the newest version is encoded as just these bytes. -/
theorem decR_sound {t : List UInt8} (h : (decR (3 :: t)).2 = 0) : encR 3 (decR (3 :: t)).1 = 3 :: t := by
  have e3 : (3 :: t : List UInt8) = Lib.uvarint 3 ++ t := by rw [Lib.uvarint_small (by decide)]; rfl
  have hd := dec62_uvarint 3 t (by decide)
  have hl1 : (Lib.uvarint 3).length = 1 := by rw [Lib.uvarint_small (by decide)]; rfl
  rw [e3] at h ⊢
  unfold decR at h ⊢
  rw [if_neg (ne_nil_of (by rw [List.length_append]; omega)), hd] at h ⊢
  simp only [hl1] at h ⊢
  rw [if_neg (by omega), if_neg (by omega)] at h ⊢
  rw [show (Lib.uvarint 3 ++ t).drop 1 = t by rw [← hl1, List.drop_left]] at h ⊢
  cases hw : walkV 3 t (-1) 0 zeroR with
  | error e =>
    rw [hw] at h
    simp only at h
    rcases walk_codes _ _ _ _ _ _ _ (Nat.le_refl _) hw with e | e <;> omega
  | ok p =>
    obtain ⟨r, n⟩ := p
    rw [hw] at h
    simp only at h ⊢
    by_cases hn : n = 5
    · subst hn
      rw [if_neg (by simp)] at h ⊢
      by_cases hf : FitsR r
      · rw [if_pos hf]
        obtain ⟨fs, i1, i2, i3, i4, -⟩ := walk3_sound _ _ _ _ _ _ _ (Nat.le_refl _) hw
        rw [rising5 i1 i2 (by omega)] at i4
        show Lib.uvarint 3 ++ encFs r [1, 2, 3, 4, 5] = _
        rw [← i4]
      · rw [if_neg hf] at h
        simp at h
    · rw [if_pos (by omega)] at h
      simp at h

/-- What stands behind the version, read. -/
theorem decR_at (v : Nat) (h1 : 1 ≤ v) (h3 : v ≤ 3) (X : List UInt8) : decR (Lib.uvarint v ++ X) = match walkV v X (-1) 0 zeroR with
    | .error e => (zeroR, e)
    | .ok (r, found) => if found ≠ v + 2 then (zeroR, 7) else if FitsR r then (r, 0) else (zeroR, 1) := by
  have hp := Lib.uvarint_pos v
  have hd := dec62_uvarint v X (by omega)
  unfold decR
  rw [if_neg (ne_nil_of (by rw [List.length_append]; omega)), hd]
  simp only
  rw [if_neg (by omega), if_neg (by omega), List.drop_left]

/-- Something behind it, in the newest version. -/
theorem decR_more {r : Rec} (hr : FitsR r) {t : List UInt8} (ht : t ≠ []) : (decR (encR 3 r ++ t)).2 ≠ 0 := by
  obtain ⟨a, b, -⟩ := fields_ok (v := 3) (by decide) (by decide)
  have hw : walkV 3 (encFs r (fieldsV 3) ++ t) (-1) 0 zeroR = walkV 3 t 5 5 ((fieldsV 3).foldl (setF r) zeroR) := walk_fs hr t (fieldsV 3) (-1) 0 zeroR a b
  have he : ∃ e : Int, walkV 3 t 5 5 ((fieldsV 3).foldl (setF r) zeroR) = .error e ∧ e ≠ 0 := by
    rw [walkV, dif_neg ht]
    by_cases hk : (dec62 t).2 = 0 ∨ ((dec62 t).1 : Int) ≤ 5
    · rw [dif_pos hk]
      exact ⟨3, rfl, by decide⟩
    · rw [dif_neg hk, if_neg (by unfold hasV; omega), if_pos (.inr rfl)]
      exact ⟨7, rfl, by decide⟩
  obtain ⟨e, he, h0⟩ := he
  have hE : encR 3 r ++ t = Lib.uvarint 3 ++ (encFs r (fieldsV 3) ++ t) := List.append_assoc ..
  rw [hE, decR_at 3 (by decide) (by decide), hw, he]
  exact h0

/-- A strange field. -/
theorem decR_strange {v : Int} (h1 : 1 ≤ v) (h3 : v ≤ 3) {r : Rec} (hr : FitsR r) (f : Nat) (hf0 : 16 ≤ f) (hf1 : f < 128) (d : List UInt8) (hd : d.length < 128) :
    decR (encR v r ++ (Lib.uvarint f ++ (Lib.uvarint d.length ++ d))) = if v = 3 then (zeroR, 7) else (upgR v r, 0) := by
  obtain ⟨a, b, n⟩ := fields_ok h1 h3
  have hw := walk_fs hr (Lib.uvarint f ++ (Lib.uvarint d.length ++ d)) (fieldsV v) (-1) 0 zeroR a b
  rw [fields_set h1 h3, n] at hw
  have hlast : lastOf (-1) (fieldsV v) ≤ 5 := by
    have hv : v = 1 ∨ v = 2 ∨ v = 3 := by omega
    rcases hv with rfl | rfl | rfl <;> decide
  have hp := Lib.uvarint_pos f
  have hp2 := Lib.uvarint_pos d.length
  have d1 := dec62_uvarint f (Lib.uvarint d.length ++ d) (by omega)
  have d2 := dec62_uvarint d.length d (by omega)
  have hE : encR v r ++ (Lib.uvarint f ++ (Lib.uvarint d.length ++ d)) = Lib.uvarint v.toNat ++ (encFs r (fieldsV v) ++ (Lib.uvarint f ++ (Lib.uvarint d.length ++ d))) := List.append_assoc ..
  rw [hE, decR_at v.toNat (by omega) (by omega), hw, walkV, dif_neg (ne_nil_of (by rw [List.length_append]; omega)), dif_neg (by rw [d1]; simp only; omega), d1]
  simp only
  rw [if_neg (by unfold hasV; omega)]
  by_cases hv : v = 3
  · subst hv
    rw [if_pos (.inr rfl), if_pos rfl]
  · rw [if_neg (by omega), if_neg hv, List.drop_left, d2]
    simp only
    rw [if_neg (by rw [List.length_append, List.length_append]; omega), show (Lib.uvarint f ++ (Lib.uvarint d.length ++ d)).drop ((Lib.uvarint f).length + (Lib.uvarint d.length).length + d.length) = [] from List.drop_of_length_le (by rw [List.length_append, List.length_append]; omega), walk_nil]
    simp only
    rw [if_neg (by omega), if_pos (upg_fits hr)]

theorem encR_upg {v : Int} (h1 : 1 ≤ v) (h3 : v ≤ 3) (r : Rec) : encR v (upgR v r) = encR v r := by
  have hv : v = 1 ∨ v = 2 ∨ v = 3 := by omega
  rcases hv with rfl | rfl | rfl <;> rfl

theorem upg_upg (v : Int) (r : Rec) : upgR v (upgR v r) = upgR v r := by
  unfold upgR
  simp only
  by_cases h1 : v < 2 <;> by_cases h2 : v < 3 <;> simp [h1, h2]

theorem upg_three (r : Rec) : upgR 3 r = r := rfl

/-- Two records have two texts just if their upgrades are two. -/
theorem encR_inj {v : Int} (h1 : 1 ≤ v) (h3 : v ≤ 3) {r s : Rec} (hr : FitsR r) (hs : FitsR s) : encR v r = encR v s ↔ upgR v r = upgR v s := by
  constructor
  · intro h
    have e1 := decR_enc h1 h3 hr
    rw [h, decR_enc h1 h3 hs] at e1
    injection e1 with e1
    exact e1.symm
  · intro h
    rw [← encR_upg h1 h3 r, h, encR_upg h1 h3 s]

theorem decR_nil : decR [] = (zeroR, 2) := by simp [decR]

end Go.Proofs.Ytgmdhlchdjlgnab
