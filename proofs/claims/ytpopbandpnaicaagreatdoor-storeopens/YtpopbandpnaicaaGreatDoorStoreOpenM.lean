import Derived.Test.YtpopbandpnaicaaGreatDoorStoreW
namespace Go.Proofs.YtpopbandpnaicaaGreatDoor

theorem uv_pos (n : Nat) : 1 <= (Lib.uvarint n).length := by
 rw [Lib.uvarint]
 split <;> simp

theorem encOne_pos (pre : List Rec) (r : Rec) : 1 <= (encOne pre r).length := by
 unfold encOne
 rw [List.length_append]
 have := uv_pos r.proc.toNat
 omega

theorem encRs_pos : ∀ (l pre : List Rec), l.length <= (encRs pre l).length
 | [], pre => by simp
 | r :: t, pre => by
   rw [encRs, List.length_append, List.length_cons]
   have := encRs_pos t (pre ++ [r])
   have := encOne_pos pre r
   omega

theorem decBo_len {d : List UInt8} {l : List Rec} (h : decBo d = some l) : l.length <= d.length := by
 obtain ⟨-, h2⟩ := decBo_some h
 rw [<- h2]
 unfold encB
 rw [List.length_append, List.length_append]
 have := encRs_pos l []
 omega

def sumL (B : List (List UInt8)) : Nat := (B.map List.length).sum

theorem sumL_cons (d : List UInt8) (t : List (List UInt8)) : sumL (d :: t) = d.length + sumL t := by simp [sumL]

theorem sumL_frames : ∀ L : List (List UInt8), sumL L <= (framesOf L).length
 | [] => Nat.zero_le _
 | x :: t => by
   have ih := sumL_frames t
   have e : framesOf (x :: t) = frameOf x ++ framesOf t := by simp [framesOf]
   rw [sumL_cons, e, List.length_append, frameOf_length]
   omega

theorem sumL_whole (b : List UInt8) : sumL (wholeF b).1 <= b.length := by
 obtain ⟨h1, -⟩ := wholeF_some b.length b (Nat.le_refl _)
 have h2 := sumL_frames (wholeF b).1
 rw [h1, List.length_take] at h2
 omega

theorem blocksK_len (first : Int) : ∀ (B : List (List UInt8)) (acc : List Rec), (blocksK first B acc).length <= acc.length + sumL B
 | [], acc => by
   rw [blocksK]
   omega
 | d :: t, acc => by
   rw [blocksK_step, sumL_cons]
   cases hd : decBo d with
   | none => dsimp only; omega
   | some l =>
     dsimp only
     split
     · have ih := blocksK_len first t (acc ++ l)
       have := decBo_len hd
       rw [List.length_append] at ih
       omega
     · omega

theorem blocksK_chain (first : Int) : ∀ (B : List (List UInt8)) (acc : List Rec), chainR first acc -> chainR first (blocksK first B acc)
 | [], acc, h => by
   rw [blocksK]
   exact h
 | d :: t, acc, h => by
   rw [blocksK_step]
   cases hd : decBo d with
   | none => exact h
   | some l =>
     dsimp only
     split
     · rename_i he
       refine blocksK_chain first t (acc ++ l) (chainR_app.2 ⟨h, ?_⟩)
       rw [<- he]
       exact (decBo_some hd).1.2.2.2
     · exact h

theorem segK_more {b : List UInt8} {kind : Int} {f : Nat} {l : List Rec} (h : segK b kind = some (f, l)) : chainR f l ∧ l.length <= b.length := by
 have hw := sumL_whole b
 rw [segK_eq] at h
 unfold segLK at h
 cases hL : (wholeF b).1 with
 | nil => rw [hL] at h; cases h
 | cons H B =>
   rw [hL] at h hw
   dsimp only at h
   cases hh : headK H kind with
   | none => rw [hh] at h; cases h
   | some f' =>
     rw [hh] at h
     have h2 := Option.some.inj h
     injection h2 with e1 e2
     subst e1
     rw [<- e2]
     refine ⟨blocksK_chain _ B [] trivial, ?_⟩
     have := blocksK_len f' B []
     rw [sumL_cons] at hw
     simp only [List.length_nil] at this
     omega

theorem apart_few : ∀ (m : Nat) (l : List Nat), l.Nodup -> (∀ x ∈ l, x < m) -> l.length <= m
 | 0, l, _, h => by
   cases l with
   | nil => exact Nat.le_refl _
   | cons x t => exact absurd (h x List.mem_cons_self) (Nat.not_lt_zero _)
 | m + 1, l, hd, h => by
   have h1 := apart_few m (l.erase m) (hd.erase m) (fun x hx => by
     have h2 := h x (List.mem_of_mem_erase hx)
     have h3 : x ≠ m := fun e => by
       rw [e] at hx
       exact (List.Nodup.mem_erase_iff hd).1 hx |>.1 rfl
     omega)
   have h4 : l.length <= (l.erase m).length + 1 := by
     rw [List.length_erase]
     split <;> omega
   omega

theorem OkL.few {m : Nat} {l : Dir} (h : OkL m l) : l.length <= m := by
 have h1 : (l.map Prod.snd).Nodup := by
   unfold List.Nodup
   rw [List.pairwise_map]
   exact h.apart
 have h2 := apart_few m (l.map Prod.snd) h1 (fun x hx => by
   obtain ⟨p, hp, rfl⟩ := List.mem_map.1 hx
   exact (h.may p hp).2)
 rwa [List.length_map] at h2

structure SzD (d : Dk) (F B : Nat) : Prop where
 files : d.files.length <= F
 bytes : ∀ x ∈ d.files, x.b.length <= B

theorem SzD.fl {d : Dk} {F B : Nat} (h : SzD d F B) (f : Nat) : (fl d.files f).b.length <= B := by
 by_cases hf : f < d.files.length
 · exact h.bytes _ (mem_fl hf)
 · unfold Go.Proofs.YtpopbandpnaicaaGreatDoor.fl
   rw [List.getD, List.getElem?_eq_none (by omega)]
   exact Nat.zero_le _

theorem SzD.read {d : Dk} {F B : Nat} (h : SzD d F B) (n : Int) : (readD d n).1.length <= B := by
 unfold readD
 split
 · exact Nat.zero_le _
 · split
   · exact h.fl _
   · exact Nat.zero_le _

theorem SzD.names {d : Dk} {F B : Nat} (h : SzD d F B) (hok : OkD d) (first : Int) : (sortD (namesD d) first).length <= F := by
 refine Nat.le_trans (List.length_filter_le _ _) ?_
 unfold namesD
 rw [List.length_map]
 exact Nat.le_trans hok.dir.few h.files

theorem OkG.logOne {d : Dk} {kind : Int} {b : Lgb} (h : OkG b) (n : Int) : OkG (logOne d kind b n) := by
 unfold Go.Proofs.YtpopbandpnaicaaGreatDoor.logOne
 cases hs : segK (readD d n).1 kind with
 | none => exact h
 | some x =>
   obtain ⟨f, l⟩ := x
   dsimp only
   obtain ⟨h1, h2⟩ := segK_ok hs
   obtain ⟨h3, -⟩ := segK_more hs
   split
   · rename_i hc
     have hst := h.start n f (by omega) (by omega) hc
     have hnx := b.start_next n f h.empty hc
     refine hst.add l ?_ h2 (by rw [hnx]; exact h3) ?_
     · show (b.pcs ++ [_]).length ≠ 0
       simp
     · rw [hnx]
       by_cases he : l = []
       · rw [he]
         simp only [List.length_nil]
         omega
       · exact chainR_top h3 h2 he
   · exact h

theorem logOne_sizes {d : Dk} {kind : Int} {F B : Nat} (hz : SzD d F B) (b : Lgb) (n : Int) : (logOne d kind b n).recs.length <= b.recs.length + B ∧ (logOne d kind b n).pcs.length <= b.pcs.length + 1 := by
 unfold logOne
 cases hs : segK (readD d n).1 kind with
 | none => exact ⟨Nat.le_add_right _ _, Nat.le_add_right _ _⟩
 | some x =>
   obtain ⟨f, l⟩ := x
   dsimp only
   obtain ⟨-, h4⟩ := segK_more hs
   have h5 := hz.read n
   split
   · refine ⟨?_, ?_⟩
     · show (b.recs ++ l).length <= _
       rw [List.length_append]
       omega
     · show (moreLast (b.pcs ++ [_]) l.length).length <= _
       rw [moreLast_length]
       simp
   · exact ⟨Nat.le_add_right _ _, Nat.le_add_right _ _⟩

theorem foldQ_okG (d : Dk) (kind : Int) (l : List Int) : ∀ q, OkG (foldQ d kind l q)
 | 0 => okG_zero 0 (by decide) (by decide)
 | q + 1 => by
   by_cases hq : q < l.length
   · rw [foldQ_succ d kind l q hq]
     exact (foldQ_okG d kind l q).logOne _
   · have e : foldQ d kind l (q + 1) = foldQ d kind l q := by
       unfold foldQ
       rw [List.take_of_length_le (by omega), List.take_of_length_le (by omega)]
     rw [e]
     exact foldQ_okG d kind l q

theorem foldQ_sizes {d : Dk} {kind : Int} {F B : Nat} (hz : SzD d F B) (l : List Int) : ∀ q, (foldQ d kind l q).recs.length <= min q l.length * B ∧ (foldQ d kind l q).pcs.length <= min q l.length
 | 0 => ⟨Nat.zero_le _, Nat.zero_le _⟩
 | q + 1 => by
   have ih := foldQ_sizes (kind := kind) hz l q
   by_cases hq : q < l.length
   · rw [foldQ_succ d kind l q hq]
     have h1 := logOne_sizes (kind := kind) hz (foldQ d kind l q) (l.getD q 0)
     have e1 : min q l.length = q := by omega
     have e2 : min (q + 1) l.length = q + 1 := by omega
     rw [e1] at ih
     rw [e2, Nat.succ_mul]
     omega
   · have e : foldQ d kind l (q + 1) = foldQ d kind l q := by
       unfold foldQ
       rw [List.take_of_length_le (by omega), List.take_of_length_le (by omega)]
     have e1 : min (q + 1) l.length = min q l.length := by omega
     rw [e, e1]
     exact ih

theorem OkG.logOk {g : Lgb} (h : OkG g) (h1 : g.recs.length <= 9000000) (h2 : g.pcs.length <= 900000) : LogOk g := by
 have ht := h.top
 have h0 := h.f0
 refine ⟨h0, ?_, h1, h2, fun p hp => ?_⟩
 · unfold Lgb.next at ht
   omega
 · have := chainP_mem h.ch p hp
   omega

theorem logD_all {d : Dk} (kind : Int) {F B : Nat} (hz : SzD d F B) (hok : OkD d) (hF : F <= 900) (hFB : F * B <= 9000000) (q : Nat) : LogOk (foldQ d kind (sortD (namesD d) 2) q) := by
 have h1 := foldQ_sizes (kind := kind) hz (sortD (namesD d) 2) q
 have h2 := hz.names hok 2
 have h3 : min q (sortD (namesD d) 2).length <= F := by omega
 refine (foldQ_okG d kind _ q).logOk ?_ (by omega)
 have h4 : min q (sortD (namesD d) 2).length * B <= F * B := Nat.mul_le_mul_right B h3
 omega

theorem logD_okG (d : Dk) (kind : Int) : OkG (logD d kind) := by
 have := foldQ_okG d kind (sortD (namesD d) 2) (sortD (namesD d) 2).length
 rwa [foldQ_all d kind _ _ rfl] at this

theorem logD_sizes {d : Dk} (kind : Int) {F B : Nat} (hz : SzD d F B) (hok : OkD d) : (logD d kind).recs.length <= F * B ∧ (logD d kind).pcs.length <= F := by
 have h1 := foldQ_sizes (kind := kind) hz (sortD (namesD d) 2) (sortD (namesD d) 2).length
 rw [foldQ_all d kind _ _ rfl, Nat.min_self] at h1
 have h2 := hz.names hok 2
 have h3 := Nat.mul_le_mul_right B h2
 unfold logD
 omega

theorem startS_may {kind : Int} (h0 : 0 <= kind) (h1 : kind < 6) : MayS (startS kind) := by
 have hk : kind = 0 ∨ kind = 1 ∨ kind = 2 ∨ kind = 3 ∨ kind = 4 ∨ kind = 5 := by omega
 rcases hk with rfl | rfl | rfl | rfl | rfl | rfl <;> decide

theorem startK_may {kind : Int} (h0 : 0 <= kind) (h1 : kind < 6) : MayN (startK kind) := ⟨⟨by show (0 : Int) <= 0; decide, by show (0 : Int) < 4611686018427387904; decide⟩, startS_may h0 h1, TabTo.zero _⟩

theorem startK_kind {kind : Int} (h0 : 0 <= kind) (h1 : kind < 6) : (startK kind).st.kind = kind := by
 have hk : kind = 0 ∨ kind = 1 ∨ kind = 2 ∨ kind = 3 ∨ kind = 4 ∨ kind = 5 := by omega
 rcases hk with rfl | rfl | rfl | rfl | rfl | rfl <;> rfl

theorem MayN.snS {s : Snap} (h : MayN s) : SnS s := ⟨h.2.1, h.2.2.tabR⟩

theorem baseFold_may {d : Dk} {kind : Int} : ∀ (l : List Int) (b : List Snap), (∀ x ∈ b, MayN x ∧ x.st.kind = kind) -> b ≠ [] -> (∀ x ∈ l.foldl (baseOne d kind) b, MayN x ∧ x.st.kind = kind) ∧ l.foldl (baseOne d kind) b ≠ []
 | [], b, h, h0 => ⟨h, h0⟩
 | n :: l, b, h, h0 => by
   rw [List.foldl_cons]
   refine baseFold_may l _ ?_ ?_
   · unfold baseOne
     split
     · rename_i hc
       intro x hx
       rcases List.mem_append.1 hx with hx | hx
       · exact h x hx
       · rw [List.mem_singleton.1 hx]
         exact ⟨(decN_sound hc.1).1, hc.2⟩
     · exact h
   · unfold baseOne
     split
     · simp
     · exact h0

theorem basesD_may {d : Dk} {kind : Int} (h0 : 0 <= kind) (h1 : kind < 6) : (∀ x ∈ basesD d kind, MayN x ∧ x.st.kind = kind) ∧ basesD d kind ≠ [] :=
 baseFold_may _ _ (fun x hx => by rw [List.mem_singleton.1 hx]; exact ⟨startK_may h0 h1, startK_kind h0 h1⟩) (by simp)

theorem lastSn_mem {l : List Snap} (h : l ≠ []) : lastSn l ∈ l := by
 unfold lastSn
 have hl : l.length - 1 < l.length := by have := List.length_pos_iff.2 h; omega
 rw [List.getD, List.getElem?_eq_getElem hl]
 exact List.getElem_mem _

theorem basesD_last {d : Dk} {kind : Int} (h0 : 0 <= kind) (h1 : kind < 6) : MayN (lastSn (basesD d kind)) ∧ (lastSn (basesD d kind)).st.kind = kind := by
 obtain ⟨h2, h3⟩ := basesD_may (d := d) h0 h1
 exact h2 _ (lastSn_mem h3)

theorem basesD_len {d : Dk} {kind : Int} {F B : Nat} (hz : SzD d F B) (hok : OkD d) : (basesD d kind).length <= F + 1 := by
 have h1 := baseQ_len d kind (sortD (namesD d) 3) (sortD (namesD d) 3).length (Nat.le_refl _)
 rw [baseQ_all d kind _ _ rfl] at h1
 have h2 := hz.names hok 3
 unfold basesD
 omega

theorem openS_ok {d : Dk} {kind : Int} (h0 : 0 <= kind) (h1 : kind < 6) : OkS (openS d kind) := by
 obtain ⟨hb, -⟩ := basesD_last (d := d) h0 h1
 have hg := logD_okG d kind
 unfold openS
 generalize lastSn (basesD d kind) = b at hb ⊢
 unfold Lgb.behind
 have hb1 := hb.1
 by_cases hl : (logD d kind).leads b
 · rw [if_pos hl]
   obtain ⟨g1, g2, g3, g4⟩ := hl
   have hst := (takeN_state _ _ g4).2
   have hnx : (takeN b ((logD d kind).recs.drop (b.idx - (logD d kind).first).toNat)).1.idx = (logD d kind).next := by
     rw [hst, List.length_drop]
     unfold Lgb.next at g3 ⊢
     omega
   have ht := hg.top
   have hf := hg.f0
   have hn0 : 0 <= (logD d kind).next := by unfold Lgb.next; omega
   have hi : I64 (logD d kind).next := ⟨by omega, by omega⟩
   exact ⟨hg, hnx, hb.snS.take g4, fun hc => absurd rfl hc, hi, (i64_small (by decide) (by decide) : I64 0)⟩
 · rw [if_neg hl]
   have e : (⟨b.idx, [], []⟩ : Lgb).next = b.idx := by simp [Lgb.next]
   refine ⟨okG_zero _ (by omega) (by omega), ?_, hb.snS, fun hc => absurd rfl hc, ?_, (i64_small (by decide) (by decide) : I64 0)⟩
   · exact e.symm
   · show I64 (⟨b.idx, [], []⟩ : Lgb).next
     rw [e]
     exact ⟨by omega, by omega⟩

end Go.Proofs.YtpopbandpnaicaaGreatDoor
