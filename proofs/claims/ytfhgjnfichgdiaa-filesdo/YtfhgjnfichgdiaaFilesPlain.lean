/- A disk, as plain data: what each call answers, and what it makes of it. -/
import Derived.Test.YtfhgjnfichgdiaaFilesMath
namespace Go.Proofs.Ytfhgjnfichgdiaa

/-- A disk: its room, its files, the names that are kept, the changes that wait, and the power (below 0: no Cut; 0: out; else how many calls are left). -/
structure Dk where
  room : Int
  files : List Fl
  kept : Dir
  waits : List Ch
  power : Int

def dirK (d : Dk) (k : Nat) : Dir := (d.waits.take k).foldl chD d.kept
def dirD (d : Dk) : Dir := d.waits.foldl chD d.kept

def sumB (fs : List Fl) (l : Dir) : Nat := (l.map fun p => (fl fs p.2).b.length).sum
def usedD (d : Dk) : Nat := sumB d.files (dirD d)
def totF (fs : List Fl) : Nat := (fs.map fun x => x.b.length).sum

def tickD (p : Int) : Int := if p > 0 then p - 1 else p

def mayN (n : Int) : Bool := decide (0 ≤ n) && decide (n < 1048576)

def newD (room : Int) : Dk := ⟨room, [], [], [], -1⟩

/-- A file that is new, with a name. -/
def freshD (d : Dk) (n : Int) : Dk := { d with files := d.files ++ [⟨[], 0⟩], waits := d.waits ++ [.give n d.files.length] }

def growF (fs : List Fl) (f : Nat) (b : List UInt8) : List Fl := fs.set f ⟨(fl fs f).b ++ b, (fl fs f).k⟩

def appendTo (d : Dk) (f : Nat) (b : List UInt8) : Dk := { d with files := growF d.files f b, power := tickD d.power }

def appendD (d : Dk) (n : Int) (b : List UInt8) : Dk × Int :=
  if d.power = 0 then (d, 11) else if mayN n = false then (d, 1) else if (usedD d : Int) + b.length > d.room then (d, 10) else
  match look (dirD d) n with
  | some f => (appendTo d f b, 0)
  | none => (appendTo (freshD d n) d.files.length b, 0)

def readD (d : Dk) (n : Int) : List UInt8 × Int :=
  if d.power = 0 then ([], 11) else
  match look (dirD d) n with
  | some f => ((fl d.files f).b, 0)
  | none => ([], 8)

def keepF (fs : List Fl) (f : Nat) : List Fl := fs.set f ⟨(fl fs f).b, (fl fs f).b.length⟩

def syncD (d : Dk) (n : Int) : Dk × Int :=
  if d.power = 0 then (d, 11) else
  match look (dirD d) n with
  | some f => ({ d with files := keepF d.files f, power := tickD d.power }, 0)
  | none => (d, 8)

def renameD (d : Dk) (n to : Int) : Dk × Int :=
  if d.power = 0 then (d, 11) else
  match look (dirD d) n with
  | some f => if mayN to = false then (d, 1) else if n = to then ({ d with power := tickD d.power }, 0) else
      ({ d with waits := d.waits ++ [.move n to f], power := tickD d.power }, 0)
  | none => (d, 8)

def removeD (d : Dk) (n : Int) : Dk × Int :=
  if d.power = 0 then (d, 11) else
  match look (dirD d) n with
  | some _ => ({ d with waits := d.waits ++ [.take n], power := tickD d.power }, 0)
  | none => (d, 8)

def syncDirD (d : Dk) : Dk × Int :=
  if d.power = 0 then (d, 11) else ({ d with kept := dirD d, waits := [], power := tickD d.power }, 0)

def cutD (d : Dk) (n : Int) : Dk := { d with power := if d.power = 0 then 0 else max n 0 }

def crashD (d : Dk) (names : Int) (keep : List Int) : Dk :=
  let l := dirK d (shareN names d.waits.length)
  { d with files := crashF keep l 0 d.files, kept := l, waits := [], power := -1 }

/-- A change of a disk with m files: its names may be, its file is there, a move goes elsewhere. -/
def okCh (m : Nat) : Ch → Prop
  | .give n f => mayN n = true ∧ f < m
  | .move n to f => mayN n = true ∧ mayN to = true ∧ n ≠ to ∧ f < m
  | .take n => mayN n = true

/-- Names that a disk with m files may have. -/
structure OkL (m : Nat) (l : Dir) : Prop where
  rise : RisingD l
  apart : Apart l
  may : ∀ p ∈ l, mayN p.1 = true ∧ p.2 < m

structure OkD (d : Dk) : Prop where
  dirs : ∀ k, OkL d.files.length (dirK d k)
  chs : ∀ c ∈ d.waits, okCh d.files.length c
  keep : ∀ x ∈ d.files, x.k ≤ x.b.length

theorem dirK_all (d : Dk) : dirK d d.waits.length = dirD d := by rw [dirK, dirD, List.take_length]

theorem dirK_zero (d : Dk) : dirK d 0 = d.kept := by rw [dirK]; rfl

theorem dirK_ge (d : Dk) {k : Nat} (h : d.waits.length ≤ k) : dirK d k = dirD d := by rw [dirK, dirD, List.take_of_length_le h]

theorem dirK_succ (d : Dk) {k : Nat} (h : k < d.waits.length) : dirK d (k + 1) = chD (dirK d k) d.waits[k] := by
  rw [dirK, dirK, List.take_succ_eq_append_getElem h, List.foldl_append]
  rfl

theorem OkD.dir {d : Dk} (h : OkD d) : OkL d.files.length (dirD d) := by rw [← dirK_all]; exact h.dirs _

theorem OkD.kept {d : Dk} (h : OkD d) : OkL d.files.length d.kept := by rw [← dirK_zero]; exact h.dirs _

theorem OkL.more {m m' : Nat} {l : Dir} (h : OkL m l) (hm : m ≤ m') : OkL m' l :=
  ⟨h.rise, h.apart, fun p hp => ⟨(h.may p hp).1, by have := (h.may p hp).2; omega⟩⟩

theorem okCh.more {m m' : Nat} {c : Ch} (h : okCh m c) (hm : m ≤ m') : okCh m' c := by
  cases c with
  | give n f => exact ⟨h.1, by have := h.2; omega⟩
  | move n to f => exact ⟨h.1, h.2.1, h.2.2.1, by have := h.2.2.2; omega⟩
  | take n => exact h

theorem okL_nil (m : Nat) : OkL m [] := ⟨List.Pairwise.nil, List.Pairwise.nil, fun p hp => by cases hp⟩

theorem okD_new (room : Int) : OkD (newD room) := by
  refine ⟨fun k => ?_, (fun c hc => by cases hc), (fun x hx => by cases hx)⟩
  rw [dirK]
  show OkL 0 ((([] : List Ch).take k).foldl chD [])
  rw [List.take_nil]
  exact okL_nil _

/-- One change more. -/
theorem OkD.wait {d : Dk} (h : OkD d) {c : Ch} {fs : List Fl} {p : Int} (hfs : d.files.length ≤ fs.length) (hk : ∀ x ∈ fs, x.k ≤ x.b.length) (hc : okCh fs.length c) (hl : OkL fs.length (chD (dirD d) c)) :
    OkD { d with files := fs, waits := d.waits ++ [c], power := p } := by
  refine ⟨fun k => ?_, fun c' hc' => ?_, hk⟩
  · show OkL fs.length (((d.waits ++ [c]).take k).foldl chD d.kept)
    by_cases hle : k ≤ d.waits.length
    · rw [List.take_append_of_le_length hle]
      exact (h.dirs k).more hfs
    · rw [List.take_of_length_le (by simp; omega), List.foldl_append]
      exact hl
  · rcases List.mem_append.1 hc' with hc' | hc'
    · exact (h.chs c' hc').more hfs
    · rw [List.mem_singleton.1 hc']
      exact hc

/-- The same names, other bytes. -/
theorem OkD.bytes {d : Dk} (h : OkD d) {fs : List Fl} {p : Int} (hfs : d.files.length = fs.length) (hk : ∀ x ∈ fs, x.k ≤ x.b.length) : OkD { d with files := fs, power := p } := by
  refine ⟨fun k => ?_, fun c hc => ?_, hk⟩
  · show OkL fs.length (dirK d k)
    rw [← hfs]
    exact h.dirs k
  · show okCh fs.length c
    rw [← hfs]
    exact h.chs c hc

theorem OkD.power {d : Dk} (h : OkD d) (p : Int) : OkD { d with power := p } := h.bytes (fs := d.files) rfl h.keep

/-- No change waits. -/
theorem okD_kept {d : Dk} {fs : List Fl} {l : Dir} {p : Int} (hl : OkL fs.length l) (hk : ∀ x ∈ fs, x.k ≤ x.b.length) : OkD { d with files := fs, kept := l, waits := [], power := p } := by
  refine ⟨fun k => ?_, (fun c hc => by cases hc), hk⟩
  show OkL fs.length ((([] : List Ch).take k).foldl chD l)
  rw [List.take_nil]
  exact hl

theorem OkD.fresh {d : Dk} (h : OkD d) {n : Int} (hn : mayN n = true) : OkD (freshD d n) := by
  have hd := h.dir
  refine OkD.wait (p := d.power) h (by simp) (fun x hx => ?_) ⟨hn, by simp⟩ ⟨?_, ?_, ?_⟩
  · rcases List.mem_append.1 hx with hx | hx
    · exact h.keep x hx
    · rw [List.mem_singleton.1 hx]; exact Nat.le_refl _
  · exact rising_chD hd.rise _
  · rw [chD]
    exact apart_setN hd.apart n _ fun p hp _ => by have := (hd.may p hp).2; omega
  · intro p hp
    rw [chD, mem_setN] at hp
    simp only [List.length_append, List.length_singleton]
    rcases hp with ⟨hp, _⟩ | ⟨hp, e⟩
    · exact ⟨(hd.may p hp).1, by have := (hd.may p hp).2; omega⟩
    · rw [hp]
      have := Option.some.inj e
      exact ⟨hn, by omega⟩

theorem look_fresh {d : Dk} (h : OkD d) (n : Int) : look (dirD (freshD d n)) n = some d.files.length := by
  have e : dirD (freshD d n) = chD (dirD d) (.give n d.files.length) := by
    show (d.waits ++ [_]).foldl chD d.kept = _
    rw [List.foldl_append]
    rfl
  rw [e, look_chD h.dir.rise _ (fun _ _ _ hh => by cases hh)]
  show (if n = n then _ else _) = _
  rw [if_pos rfl]

theorem dirD_fresh (d : Dk) (n : Int) : dirD (freshD d n) = chD (dirD d) (.give n d.files.length) := by
  show (d.waits ++ [_]).foldl chD d.kept = _
  rw [List.foldl_append]
  rfl

theorem mem_fl {fs : List Fl} {f : Nat} (h : f < fs.length) : fl fs f ∈ fs := by
  unfold fl
  rw [List.getD, List.getElem?_eq_getElem h]
  exact List.getElem_mem h

theorem keep_set {fs : List Fl} (h : ∀ x ∈ fs, x.k ≤ x.b.length) (f : Nat) {y : Fl} (hy : y.k ≤ y.b.length) : ∀ x ∈ fs.set f y, x.k ≤ x.b.length := by
  intro x hx
  rcases List.mem_or_eq_of_mem_set hx with hx | rfl
  · exact h x hx
  · exact hy

theorem fl_keep {fs : List Fl} (h : ∀ x ∈ fs, x.k ≤ x.b.length) (f : Nat) : (fl fs f).k ≤ (fl fs f).b.length := by
  by_cases hf : f < fs.length
  · exact h _ (mem_fl hf)
  · unfold fl
    rw [List.getD, List.getElem?_eq_none (by omega)]
    exact Nat.le_refl _

theorem OkD.appendTo {d : Dk} (h : OkD d) (f : Nat) (b : List UInt8) : OkD (appendTo d f b) := by
  refine h.bytes (by simp [growF]) (keep_set h.keep f ?_)
  have := fl_keep h.keep f
  simp only [List.length_append]
  omega

theorem OkD.append {d : Dk} (h : OkD d) (n : Int) (b : List UInt8) : OkD (appendD d n b).1 := by
  unfold appendD
  split
  · exact h
  · split
    · exact h
    · rename_i hn
      split
      · exact h
      · split
        · exact h.appendTo _ b
        · exact (h.fresh (by simpa using hn)).appendTo _ b

theorem OkD.sync {d : Dk} (h : OkD d) (n : Int) : OkD (syncD d n).1 := by
  unfold syncD
  split
  · exact h
  · split
    · exact h.bytes (by simp [keepF]) (keep_set h.keep _ (Nat.le_refl _))
    · exact h

theorem OkL.mayOf {m : Nat} {l : Dir} (h : OkL m l) {n : Int} {f : Nat} (e : look l n = some f) : mayN n = true ∧ f < m := h.may (n, f) ((look_mem h.rise n f).1 e)

theorem apart_ne : ∀ {l : Dir}, Apart l → ∀ {p q : Int × Nat}, p ∈ l → q ∈ l → p ≠ q → p.2 ≠ q.2
  | [], _, _, _, hp, _, _ => by cases hp
  | a :: l, h, p, q, hp, hq, hne => by
    unfold Apart at h
    rw [List.pairwise_cons] at h
    rcases List.mem_cons.1 hp with e1 | hp1
    · rcases List.mem_cons.1 hq with e2 | hq1
      · exact absurd (e1.trans e2.symm) hne
      · rw [e1]; exact h.1 q hq1
    · rcases List.mem_cons.1 hq with e2 | hq1
      · rw [e2]; exact fun e => h.1 p hp1 e.symm
      · exact apart_ne (l := l) h.2 hp1 hq1 hne

theorem OkD.moved {d : Dk} (h : OkD d) {n m : Int} {f : Nat} (hf : look (dirD d) n = some f) (hto : mayN m = true) (hne : n ≠ m) (q : Int) : OkD { d with waits := d.waits ++ [.move n m f], power := q } := by
  have hd := h.dir
  have hm := hd.mayOf hf
  refine OkD.wait (fs := d.files) h (Nat.le_refl _) h.keep ⟨hm.1, hto, hne, hm.2⟩ ⟨rising_chD hd.rise _, ?_, ?_⟩
  · rw [chD]
    refine apart_setN (apart_delN hd.apart n) m f fun p hp _ => ?_
    rw [mem_setN] at hp
    rcases hp with ⟨hp, hpn⟩ | ⟨_, hp⟩
    · intro e
      have hfm := (look_mem hd.rise n f).1 hf
      have := apart_ne hd.apart hp hfm (by intro e; rw [e] at hpn; exact hpn rfl)
      exact this e
    · cases hp
  · intro p hp
    rw [chD, mem_setN, mem_setN] at hp
    rcases hp with ⟨⟨hp, _⟩ | ⟨_, hp⟩, _⟩ | ⟨hp, e⟩
    · exact hd.may p hp
    · cases hp
    · rw [hp]
      exact ⟨hto, by rw [← Option.some.inj e]; exact hm.2⟩

theorem OkD.rename {d : Dk} (h : OkD d) (n m : Int) : OkD (renameD d n m).1 := by
  unfold renameD
  split
  · exact h
  · split
    · rename_i f hf
      split
      · exact h
      · rename_i hto
        split
        · exact h.power _
        · rename_i hne
          exact h.moved hf (by simpa using hto) hne _
    · exact h

theorem OkD.taken {d : Dk} (h : OkD d) {n : Int} {f : Nat} (hf : look (dirD d) n = some f) (q : Int) : OkD { d with waits := d.waits ++ [.take n], power := q } := by
  have hd := h.dir
  have hm := hd.mayOf hf
  refine OkD.wait (fs := d.files) h (Nat.le_refl _) h.keep hm.1 ⟨rising_chD hd.rise _, ?_, ?_⟩
  · rw [chD]; exact apart_delN hd.apart n
  · intro p hp
    rw [chD, mem_setN] at hp
    rcases hp with ⟨hp, _⟩ | ⟨_, hp⟩
    · exact hd.may p hp
    · cases hp

theorem OkD.remove {d : Dk} (h : OkD d) (n : Int) : OkD (removeD d n).1 := by
  unfold removeD
  split
  · exact h
  · split
    · rename_i f hf
      exact h.taken hf _
    · exact h

theorem OkD.syncDir {d : Dk} (h : OkD d) : OkD (syncDirD d).1 := by
  unfold syncDirD
  split
  · exact h
  · exact okD_kept (fs := d.files) h.dir h.keep

theorem OkD.cut {d : Dk} (h : OkD d) (n : Int) : OkD (cutD d n) := h.power _

theorem keep_cutF {x : Fl} (h : x.k ≤ x.b.length) (a : Int) : (cutF x a).k ≤ (cutF x a).b.length := by
  have := shareN_le a (x.b.length - x.k)
  unfold cutF
  simp only [List.length_take]
  omega

theorem cutF_len {x : Fl} (h : x.k ≤ x.b.length) (a : Int) : (cutF x a).b.length = (cutF x a).k := by
  have := shareN_le a (x.b.length - x.k)
  unfold cutF
  simp only [List.length_take]
  omega

theorem keep_crashF (keep : List Int) : ∀ (l : Dir) (i : Nat) (fs : List Fl), (∀ x ∈ fs, x.k ≤ x.b.length) → ∀ x ∈ crashF keep l i fs, x.k ≤ x.b.length
  | [], _, _, h => h
  | p :: l, i, fs, h => by
    rw [crashF]
    exact keep_crashF keep l (i + 1) _ (keep_set h _ (keep_cutF (fl_keep h _) _))

theorem OkD.crash {d : Dk} (h : OkD d) (names : Int) (keep : List Int) : OkD (crashD d names keep) :=
  okD_kept (fs := crashF keep (dirK d (shareN names d.waits.length)) 0 d.files) (by rw [crashF_length]; exact h.dirs _) (keep_crashF keep _ 0 _ h.keep)

end Go.Proofs.Ytfhgjnfichgdiaa
