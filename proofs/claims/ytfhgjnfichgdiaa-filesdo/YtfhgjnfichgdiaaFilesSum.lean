/- How many bytes a disk has, behind each call. -/
import Derived.Test.YtfhgjnfichgdiaaFilesPlain
namespace Go.Proofs.Ytfhgjnfichgdiaa

def lenO (fs : List Fl) : Option Nat → Nat
  | some f => (fl fs f).b.length
  | none => 0

theorem sumB_cons (fs : List Fl) (p : Int × Nat) (l : Dir) : sumB fs (p :: l) = (fl fs p.2).b.length + sumB fs l := by simp [sumB]

theorem sumB_nil (fs : List Fl) : sumB fs [] = 0 := rfl

theorem sumB_append (fs : List Fl) (a b : Dir) : sumB fs (a ++ b) = sumB fs a + sumB fs b := by simp [sumB]

theorem sumB_setG (fs : List Fl) (n : Int) (f : Nat) : ∀ (l : Dir) (done : Bool), sumB fs (setG n f done l) = sumB fs (l.filter fun p => decide (p.1 ≠ n)) + (if done then 0 else (fl fs f).b.length)
  | [], done => by cases done <;> simp [setG, sumB]
  | q :: l, done => by
    have ih := sumB_setG fs n f l (done || decide (q.1 > n))
    rw [setG, sumB_append, sumB_append, ih, List.filter_cons]
    by_cases h1 : q.1 > n
    · have h2 : q.1 ≠ n := by omega
      cases done <;> simp [h1, h2, sumB_cons, sumB_nil] <;> omega
    · by_cases h2 : q.1 = n
      · cases done <;> simp [h2, sumB_nil]
      · cases done <;> simp [h1, h2, sumB_cons, sumB_nil] <;> omega

theorem sumB_filter (fs : List Fl) (n : Int) : ∀ l : Dir, RisingD l → sumB fs (l.filter fun p => decide (p.1 ≠ n)) + lenO fs (look l n) = sumB fs l
  | [], _ => rfl
  | q :: l, h => by
    unfold RisingD at h
    rw [List.pairwise_cons] at h
    rw [List.filter_cons, look]
    by_cases e : q.1 = n
    · have hn : ∀ p ∈ l, p.1 ≠ n := fun p hp => by have := h.1 p hp; omega
      rw [if_pos e, if_neg (by simp [e]), sumB_cons, List.filter_eq_self.2 (fun p hp => by simpa using hn p hp)]
      show _ + (fl fs q.2).b.length = _
      omega
    · rw [if_neg e, if_pos (by simp [e]), sumB_cons, sumB_cons]
      have := sumB_filter fs n l h.2
      omega

theorem sumB_setN (fs : List Fl) {l : Dir} (h : RisingD l) (n : Int) (o : Option Nat) : sumB fs (setN l n o) + lenO fs (look l n) = sumB fs l + lenO fs o := by
  have h1 := sumB_filter fs n l h
  cases o with
  | none => rw [setN, sumB_setG]; show _ = _ + 0; simp only [if_true]; omega
  | some f => rw [setN, sumB_setG]; simp only [Bool.false_eq_true, if_false]; show _ = _ + (fl fs f).b.length; omega

theorem fl_append {fs : List Fl} {f : Nat} (h : f < fs.length) (x : Fl) : fl (fs ++ [x]) f = fl fs f := by
  unfold fl
  simp [List.getD, List.getElem?_append, h]

theorem fl_last (fs : List Fl) (x : Fl) : fl (fs ++ [x]) fs.length = x := by
  unfold fl
  simp [List.getD]

theorem sumB_ext {fs fs' : List Fl} {l : Dir} (h : ∀ p ∈ l, (fl fs' p.2).b.length = (fl fs p.2).b.length) : sumB fs' l = sumB fs l := by
  unfold sumB
  rw [List.map_congr_left h]

theorem sumB_more {fs : List Fl} {l : Dir} (h : ∀ p ∈ l, p.2 < fs.length) (x : Fl) : sumB (fs ++ [x]) l = sumB fs l :=
  sumB_ext fun p hp => by rw [fl_append (h p hp)]

/-- One file that is another one. -/
theorem sumB_set {fs : List Fl} {f : Nat} (hf : f < fs.length) (x : Fl) : ∀ {l : Dir}, Apart l → (∃ n, (n, f) ∈ l) → sumB (fs.set f x) l + (fl fs f).b.length = sumB fs l + x.b.length
  | [], _, ⟨_, h⟩ => by cases h
  | q :: l, ha, ⟨n, h⟩ => by
    unfold Apart at ha
    rw [List.pairwise_cons] at ha
    rw [sumB_cons, sumB_cons]
    by_cases e : q.2 = f
    · have hn : sumB (fs.set f x) l = sumB fs l := sumB_ext fun p hp => by rw [fl_set_other (by rw [← e]; exact ha.1 p hp)]
      rw [e, hn, fl_set_same hf]
      omega
    · rw [fl_set_other (fun e' => e e'.symm)]
      rcases List.mem_cons.1 h with h | h
      · exact absurd (by rw [← h]) e
      · have := sumB_set hf x (l := l) ha.2 ⟨n, h⟩
        omega

theorem usedD_grow {d : Dk} (h : OkD d) {n : Int} {f : Nat} (e : look (dirD d) n = some f) (b : List UInt8) : usedD (appendTo d f b) = usedD d + b.length := by
  have hm := (look_mem h.dir.rise n f).1 e
  have := sumB_set (h.dir.may _ hm).2 ⟨(fl d.files f).b ++ b, (fl d.files f).k⟩ h.dir.apart ⟨n, hm⟩
  simp only [List.length_append] at this
  show sumB (growF d.files f b) (dirD d) = sumB d.files (dirD d) + b.length
  unfold growF
  omega

theorem usedD_keep {d : Dk} (h : OkD d) {n : Int} {f : Nat} (e : look (dirD d) n = some f) (q : Int) : usedD { d with files := keepF d.files f, power := q } = usedD d := by
  have hm := (look_mem h.dir.rise n f).1 e
  have := sumB_set (h.dir.may _ hm).2 ⟨(fl d.files f).b, (fl d.files f).b.length⟩ h.dir.apart ⟨n, hm⟩
  show sumB (keepF d.files f) (dirD d) = sumB d.files (dirD d)
  unfold keepF
  dsimp only at this
  omega

theorem usedD_fresh {d : Dk} (h : OkD d) {n : Int} (e : look (dirD d) n = none) : usedD (freshD d n) = usedD d := by
  have h1 := sumB_setN (d.files ++ [⟨[], 0⟩]) h.dir.rise n (some d.files.length)
  have h2 : sumB (d.files ++ [⟨[], 0⟩]) (dirD d) = sumB d.files (dirD d) := sumB_more (fun p hp => (h.dir.may p hp).2) _
  have h3 : lenO (d.files ++ [⟨[], 0⟩]) (some d.files.length) = 0 := by show (fl _ _).b.length = 0; rw [fl_last]; rfl
  rw [e, h2, h3] at h1
  unfold usedD
  rw [dirD_fresh, chD]
  show sumB (d.files ++ [⟨[], 0⟩]) (setN (dirD d) n (some d.files.length)) = _
  simpa [lenO] using h1

theorem usedD_move {d : Dk} (h : OkD d) {n m : Int} {f : Nat} (hne : n ≠ m) (e : look (dirD d) n = some f) (q : Int) : usedD { d with waits := d.waits ++ [.move n m f], power := q } + lenO d.files (look (dirD d) m) = usedD d := by
  have h1 := sumB_setN d.files h.dir.rise n none
  have h2 := sumB_setN d.files (rising_setN h.dir.rise n none) m (some f)
  rw [look_setN h.dir.rise, if_neg (fun e => hne e.symm)] at h2
  rw [e] at h1
  have e2 : usedD { d with waits := d.waits ++ [.move n m f], power := q } = sumB d.files (setN (setN (dirD d) n none) m (some f)) := by
    show sumB d.files ((d.waits ++ [Ch.move n m f]).foldl chD d.kept) = _
    rw [List.foldl_append]
    rfl
  rw [e2]
  show _ = sumB d.files (dirD d)
  simp only [lenO] at h1 h2 ⊢
  omega

theorem usedD_take {d : Dk} (h : OkD d) {n : Int} {f : Nat} (e : look (dirD d) n = some f) (q : Int) : usedD { d with waits := d.waits ++ [.take n], power := q } + (fl d.files f).b.length = usedD d := by
  have h1 := sumB_setN d.files h.dir.rise n none
  rw [e] at h1
  have e2 : usedD { d with waits := d.waits ++ [.take n], power := q } = sumB d.files (setN (dirD d) n none) := by
    show sumB d.files ((d.waits ++ [Ch.take n]).foldl chD d.kept) = _
    rw [List.foldl_append]
    rfl
  rw [e2]
  show _ = sumB d.files (dirD d)
  simp only [lenO] at h1
  omega

theorem sumB_le {fs : List Fl} {T : Nat} (h : ∀ x ∈ fs, x.b.length ≤ T) : ∀ l : Dir, (∀ p ∈ l, p.2 < fs.length) → sumB fs l ≤ l.length * T
  | [], _ => Nat.zero_le _
  | p :: l, hl => by
    have ih := sumB_le h l fun q hq => hl q (List.mem_cons_of_mem _ hq)
    have h1 := h _ (mem_fl (hl p (List.mem_cons_self ..)))
    rw [sumB_cons, List.length_cons, Nat.add_mul]
    omega

theorem length_foldl (l : List Ch) : ∀ k : Dir, (l.foldl chD k).length ≤ k.length + l.length := by
  induction l with
  | nil => intro k; exact Nat.le_refl _
  | cons c l ih =>
    intro k
    have h1 := ih (chD k c)
    have h2 := length_chD k c
    rw [List.foldl_cons, List.length_cons]
    omega

theorem usedD_le {d : Dk} (h : OkD d) {N T : Nat} (h1 : d.kept.length + d.waits.length ≤ N) (h2 : ∀ x ∈ d.files, x.b.length ≤ T) : usedD d ≤ N * T := by
  have h3 := sumB_le h2 (dirD d) fun p hp => (h.dir.may p hp).2
  have h4 := length_foldl d.waits d.kept
  have h5 : (dirD d).length * T ≤ N * T := Nat.mul_le_mul_right T (by unfold dirD; omega)
  unfold usedD
  omega

theorem dirK_len (d : Dk) (k : Nat) : (dirK d k).length ≤ d.kept.length + d.waits.length := by
  have h := length_foldl (d.waits.take k) d.kept
  have h2 : (d.waits.take k).length ≤ d.waits.length := by rw [List.length_take]; omega
  unfold dirK
  omega

end Go.Proofs.Ytfhgjnfichgdiaa
