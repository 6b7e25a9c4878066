import Derived.Test.YtnahjngbneicaaaGreatDoorPack4
import Derived.Test.YtnahjngbneicaaaGreatDoorPack2
import Derived.Test.YtnahjngbneicaaaGreatDoorPack1
import Derived.Deep.QuietTactic
import Derived.BigQuiet
namespace Go.Proofs.YtnahjngbneicaaaGreatDoor
set_option maxHeartbeats 4000000
set_option maxRecDepth 100000
open Go.RowKit
theorem Zuh (r:Rec) (R:Nat) (e:Ent) (W:World) (hb:Br W R (ZdG r)):
 Calls Tryz.prog 84 #[ZrG e,.pointer (some ⟨R,0,none⟩)] W fun x w'=>x=.returned (.bool (decide (e.proc=r.proc)))∧Below W.heap.size W w':=by
 have HB0:Hid (∀ X,Below W.heap.size W (W.alloc X)):=fun X=>(Below.refl _ _).alloc zL X
 have hlt:R<W.heap.size:=(Array.getElem?_eq_some_iff.1 hb).1
 have HC:Hid (∀ X,(W.alloc X).cell? ⟨R,1,none⟩=some (.int .i64 r.proc)):=ZZ (fun X=>by
  rw[(HB0.out X).cell (p:=⟨R,1,none⟩) hlt]
  exact cell_of_row W R 1 _ _ _ hb)
 obtain⟨ep,es,er⟩:=e
 unfold ZrG
 simp only
 have hc:=HC.out
 generalize r.proc=rp at *
 clear hb HC
 by_cases h:ep=rp
 ·have HE:Hid (decide (ep=rp)=true):=decide_eq_true h
  have h':(ep == rp)=true:=beq_iff_eq.2 h
  rw[HE.out]
  clear HE h
  go_enter Tryz.func84,Tryz.ntmps84
  go_wp2
  go_ret
  exact⟨rfl,HB0.out _⟩
 ·have HE:Hid (decide (ep=rp)=false):=decide_eq_false h
  have h':(ep == rp)=false:=beq_eq_false_iff_ne.2 h
  rw[HE.out]
  clear HE h
  go_enter Tryz.func84,Tryz.ntmps84
  go_wp2
  go_ret
  exact⟨rfl,HB0.out _⟩
theorem Zui (r:Rec) (R:Nat) (e:Ent) (W:World) (hb:Br W R (ZdG r)):
 Calls Tryz.prog 85 #[ZrG e,.pointer (some ⟨R,0,none⟩)] W fun x w'=>x=.returned (.bool (decide (r.proc<e.proc)))∧Below W.heap.size W w':=by
 have HB0:Hid (∀ X,Below W.heap.size W (W.alloc X)):=fun X=>(Below.refl _ _).alloc zL X
 have hlt:R<W.heap.size:=(Array.getElem?_eq_some_iff.1 hb).1
 have HC:Hid (∀ X,(W.alloc X).cell? ⟨R,1,none⟩=some (.int .i64 r.proc)):=ZZ (fun X=>by
  rw[(HB0.out X).cell (p:=⟨R,1,none⟩) hlt]
  exact cell_of_row W R 1 _ _ _ hb)
 obtain⟨ep,es,er⟩:=e
 unfold ZrG
 simp only
 have hc:=HC.out
 generalize r.proc=rp at *
 clear hb HC
 by_cases h:rp<ep
 ·have HE:Hid (decide (rp<ep)=true):=decide_eq_true h
  rw[HE.out]
  clear HE
  go_enter Tryz.func85,Tryz.ntmps85
  go_wp2
  go_ret
  exact⟨rfl,HB0.out _⟩
 ·have HE:Hid (decide (rp<ep)=false):=decide_eq_false h
  rw[HE.out]
  clear HE
  go_enter Tryz.func85,Tryz.ntmps85
  go_wp2
  go_ret
  exact⟨rfl,HB0.out _⟩
theorem ZrM {p:Int} {t:List Ent} {k:Int} (h:Zxc (fun e=>decide (p<e.proc)) t k):(k<0∧ZcP p t=t.length)∨(0<=k∧k=(ZcP p t:Nat)):=by
 rcases h with ⟨rfl,h⟩ | ⟨i,rfl,hi,h1,h2⟩
 ·exact .inl ⟨by omega,ZkZ (fun j hj=>of_decide_eq_false (h j hj))⟩
 ·refine .inr ⟨by omega,?_⟩
  rw[Znr hi (fun j hj=>of_decide_eq_false (h1 j hj)) (of_decide_eq_true h2)]
theorem ZvY {p:Int} {t:List Ent} {P:Ent->Prop} (h:∀ e ∈ t,P e):∀ e ∈ Zpi p t,P e:=fun e he=>h e (List.mem_filter.1 he).1
theorem Zuj (v:Value) (t:List Ent) (r:Rec) (w:World) (hr:RdE w v t) (hok:Zfw r) (hlim:t.length<=2000):
 Calls Tryz.prog 43 #[v,ZrL r] w fun e w'=>∃ v',e=.returned v'∧Zbh w' w.heap.size v' (ZeW t ⟨r.proc,r.seq,r.resp⟩)∧Below w.heap.size w w':=by
 have hTI:∀ e ∈ t,ZlY e:=hr.choose_spec.choose_spec.2.2.2.2.1
 have HTI:=ZZ hTI
 have HX:Hid (Br (w.alloc (.cells (ZdG r) 62)) w.heap.size (ZdG r)):=ZZ (heap_alloc_new w _)
 have HB0:Hid (Below w.heap.size w (w.alloc (.cells (ZdG r) 62))):=ZZ ((Below.refl _ _).alloc zL _)
 have hsz:(w.alloc (.cells (ZdG r) 62)).heap.size=w.heap.size+1:=by simp
 have HR:=ZZ (hr.below HB0.out zL)
 have HEI:Hid (ZlY ⟨r.proc,r.seq,r.resp⟩):=ZZ ⟨hok.2.1,hok.2.2.1,hok.2.2.2.2⟩
 have eg1:∀ args W,(callFunc 84 args).run Tryz.prog W=.ok (.enter 84 args) W:=enters_of Tryz.func84 (by kernel_rfl) rfl
 have eg2:∀ args W,(callFunc 85 args).run Tryz.prog W=.ok (.enter 85 args) W:=enters_of Tryz.func85 (by kernel_rfl) rfl
 have HEG1:=ZZ eg1
 have HEG2:=ZZ eg2
 have HNI:Hid (ZeW t ⟨r.proc,r.seq,r.resp⟩=(Zpi r.proc t).take (ZcP r.proc (Zpi r.proc t))++(⟨r.proc,r.seq,r.resp⟩::(Zpi r.proc t).drop (ZcP r.proc (Zpi r.proc t)))):=ZZ (Znq ⟨r.proc,r.seq,r.resp⟩ t)
 have HBT:Hid (t.filter (fun e=>!decide (e.proc=r.proc))=Zpi r.proc t):=ZZ (by unfold Zpi;simp)
 have HN1:=ZZ (fun W e h=>Zuh r w.heap.size e W h)
 have HN2:=ZZ (fun W e h=>Zui r w.heap.size e W h)
 have HXB:Hid (∀ W,Below (w.heap.size+1) (w.alloc (.cells (ZdG r) 62)) W->Br W w.heap.size (ZdG r)):=ZZ (fun W h=>(h.block w.heap.size (by omega)).trans HX.out)
 have hmf:∀ (fn:Fn) (first cap:Array Value) (w:World),(Instr.makeFunc fn first cap).run Tryz.prog w=.ok (.func fn first cap) w:=fun _ _ _ _=>rfl
 have HCL:=ZZ (fun W v l h h2=>Zhr v l W h h2)
 clear eg1 eg2 hTI hok hr
 unfold ZrL ZdG at *
 go_enter Tryz.func43,Tryz.ntmps43
 go_wp2_with fail
 refine(HCL.out _ _ t HR.out (by omega)).mono ?_
 rintro x W1 ⟨v1,rfl,ho1,hb1⟩
 rw[hsz] at ho1 hb1
 have HO1:=ZZ ho1
 have HB1:=ZZ hb1
 clear ho1 hb1
 have HDE:=ZZ (Zjt 84 w.heap.size (fun e=>decide (e.proc=r.proc)) v1 t (w.heap.size+1) W1 HO1.out HTI.out (by have:=HB1.out.size;omega) (by omega) HEG1.out (fun W e h=>HN1.out W e (HXB.out W (HB1.out.trans h))))
 go_wp2_with fail
 refine HDE.out.mono ?_
 rintro x W2 ⟨v2,rfl,ho2,hb2⟩
 rw[HBT.out] at ho2
 have HO2:=ZZ ho2
 have HB2:=ZZ (HB1.out.trans hb2)
 have HT2:=ZZ (ZvY (p:=r.proc) HTI.out)
 have hl2:(Zpi r.proc t).length<=2000:=Nat.le_trans (ZvW _ _) hlim
 clear ho2 hb2 HDE HO1 HB1 HR HTI HBT
 obtain⟨bt,hbt⟩:∃ bt,bt=Zpi r.proc t:=⟨_,rfl⟩
 rw[<-hbt] at HO2 HT2 HNI hl2
 clear hbt
 have HIX:=ZZ (ZfA 85 w.heap.size (fun e=>decide (r.proc<e.proc)) v2 bt W2 (HO2.out.rd HT2.out) HEG2.out (fun W e h=>HN2.out W e (HXB.out W (HB2.out.trans (h.mono (by have:=HB2.out.size;omega))))))
 obtain⟨va,vc,hv2⟩:=HO2.out.shape
 subst hv2
 go_wp2_with fail
 refine HIX.out.mono ?_
 rintro x W3 ⟨k,rfl,hf,hb3⟩
 have HO3:=ZZ (HO2.out.below hb3 zL)
 have HB3:=ZZ (HB2.out.trans (hb3.mono (by have:=HB2.out.size;omega)))
 have HX3:=ZZ (HXB.out W3 HB3.out)
 have HBW:=ZZ (HB0.out.trans (HB3.out.mono (by omega)))
 have hs3:w.heap.size+1<=W3.heap.size:=by have:=HB3.out.size;omega
 clear hb3 HIX HO2 HB2
 obtain⟨q1,f1⟩:=HX3.out.cell 1
 obtain⟨q2,f2⟩:=HX3.out.cell 2
 obtain⟨q4,f4⟩:=HX3.out.cell 6
 have hfl:=Znp r.proc bt
 have HIN:=ZZ (fun I hI N hN=>Zpp (.slice va bt.length vc) bt (w.heap.size+1) W3 HO3.out hs3 (by omega) (ZcP r.proc bt) hfl ⟨r.proc,r.seq,r.resp⟩ HEI.out I hI N hN)
 rw[<-HNI.out] at HIN
 unfold ZeN at HIN
 have hbl:(bt.length:Int)<=2000:=by omega
 rcases ZrM hf with ⟨hk,hE⟩ | ⟨hk,hE⟩
 ·clear hf
  have HE2:=ZZ hE
  clear hE hfl hl2 hlim
  go_wp2_with fail
  refine(HIN.out _ (by rw[HE2.out]) _ rfl).mono ?_
  rintro x W4 ⟨v4,rfl,ho4,hb4⟩
  have HO4:=ZZ (ho4.mono (B':=w.heap.size) (by omega))
  have HB4:=ZZ (HBW.out.trans (hb4.mono (by omega)))
  clear ho4 hb4
  go_wp2
  go_ret
  exact⟨_,rfl,HO4.out,HB4.out⟩
 ·clear hf
  have hkn:¬ k<0:=by omega
  have HE2:=ZZ hE
  clear hE hfl hl2 hlim
  go_wp2_with fail
  refine(HIN.out _ HE2.out _ rfl).mono ?_
  rintro x W4 ⟨v4,rfl,ho4,hb4⟩
  have HO4:=ZZ (ho4.mono (B':=w.heap.size) (by omega))
  have HB4:=ZZ (HBW.out.trans (hb4.mono (by omega)))
  clear ho4 hb4
  go_wp2
  go_ret
  exact⟨_,rfl,HO4.out,HB4.out⟩
def Bn (w:World) (b:Nat) (cs:Array Value):Prop:=w.heap[b]?=some (.cells cs 41 (0,0))
theorem Bn.lt {w:World} {b:Nat} {cs:Array Value} (h:Bn w b cs):b<w.heap.size:=(Array.getElem?_eq_some_iff.1 h).1
theorem Bn.below {w w':World} {b B:Nat} {cs:Array Value} (h:Bn w b cs) (hb:Below B w w') (hB:w.heap.size<=B):Bn w' b cs:=(hb.block b (by have:=h.lt;omega)).trans h
theorem Bn.cell {w:World} {b:Nat} {cs:Array Value} (h:Bn w b cs) (j:Nat):w.cell? ⟨b,j,none⟩=cs[j]?∧w.frozen? ⟨b,j,none⟩=false:=⟨cell_of_row w b j _ _ _ h,frozen_of_row w b j _ _ h⟩
theorem Zhs (w:World) (X Y:Obj):((w.alloc X).alloc Y).heap[w.heap.size+1]?=some Y:=by
 have h:=heap_alloc_new (w.alloc X) Y
 have e:(w.alloc X).heap.size=w.heap.size+1:=by simp
 rw[e] at h
 exact h
def Zpr (a b:ZaX):Prop:=ZmQ a.st b.st∧a.idx=b.idx∧a.tab=b.tab
instance (a b:ZaX):Decidable (Zpr a b):=by unfold Zpr;infer_instance
theorem Zle {l:List Ent} {q:Nat} (h:q<l.length):l.take (q+1)=l.take q++[l.getD q ZaP]:=by
 rw[List.take_add_one]
 simp[List.getD,h]
theorem RdE.but {w w':World} {v:Value} {l:List Ent} (h:RdE w v l) {R T:Nat} (hb:But R T w w') (hn:l=[]∨∀ b,v.ownBlock=some b->b≠R∧b≠T):RdE w' v l:=by
 obtain⟨ao,cap,rfl,h2,h3,hn0,hw,h4⟩:=h
 refine⟨ao,cap,rfl,h2,h3,hn0,hw,?_⟩
 rcases h4 with h4 | ⟨b,off,h5,h6⟩
 ·exact .inl h4
 ·by_cases hl:l=[]
  ·exact .inl hl
  ·refine .inr ⟨b,off,h5,fun j hj=>?_⟩
   have h7:=h6 j hj
   rcases hn with hn | hn
   ·exact absurd hn hl
   ·have h8:=hn b (by rw[h5];rfl)
    exact h7.keep (hb.block b h7.lt h8.1 h8.2)
theorem RdE.block {w:World} {v:Value} {l:List Ent} (h:RdE w v l):l=[]∨∀ b,v.ownBlock=some b->b<w.heap.size:=by
 obtain⟨ao,cap,rfl,h2,h3,hn0,hw,h4⟩:=h
 rcases h4 with h4 | ⟨b,off,rfl,h6⟩
 ·exact .inl h4
 ·by_cases hl:l=[]
  ·exact .inl hl
  ·refine .inr fun c hc=>?_
   have e:b=c:=by simpa[Value.ownBlock] using hc
   rw[<-e]
   exact(h6 0 (List.length_pos_iff.2 hl)).lt
theorem RdI.old {w:World} {v:Value} {l:List Int} (h:RdI w v l):l=[]∨∀ b,v.ownBlock=some b->b<w.heap.size:=by
 rcases h.block with h | ⟨_,b,hb,hlt⟩
 ·exact .inl h
 ·refine .inr fun c hc=>?_
  rw[hb] at hc
  injection hc with hc
  omega
theorem Zbh.fresh {w:World} {B:Nat} {v:Value} {l:List Ent} (h:Zbh w B v l):∀ b,v.ownBlock=some b->B<=b:=fun b hb=>(World.ownsRow.lt h b hb).1
def Zey (w:World) (r:ZaX × Int) (e:Ending) (w':World):Prop:=
 ∃ vl vt,e=.returned (.tuple #[.agg #[.int .i64 r.1.idx,.int .i64 r.1.st.kind,vl,.bool r.1.st.shut,.int .i64 r.1.st.eng,vt],.int .i64 r.2])∧RdI w' vl r.1.st.L∧I64 r.1.st.kind∧I64 r.1.st.eng∧RdE w' vt r.1.tab∧I64 r.1.idx∧(∀ b,vl.ownBlock=some b->w.heap.size<=b)∧(∀ b,vt.ownBlock=some b->w.heap.size<=b)∧Below w.heap.size w w'
theorem Zey.zero {w w':World} (n:Int) (hb:Below w.heap.size w w'):Zey w (Zbb,n) (.returned (.tuple #[.agg #[.int .i64 0,.int .i64 0,.slice none 0 0,.bool false,.int .i64 0,.slice none 0 0],.int .i64 n])) w':=
 ⟨_,_,rfl,RdI.nil _,(Zaj (by decide) (by decide):I64 0),(Zaj (by decide) (by decide):I64 0),RdE.nil _,(Zaj (by decide) (by decide):I64 0),fun b hb=>by simp[Value.ownBlock] at hb,fun b hb=>by simp[Value.ownBlock] at hb,hb⟩
theorem SnV.below {w w':World} {v:Value} {s:ZaX} (h:SnV w v s) {B:Nat} (hb:Below B w w') (hB:w.heap.size<=B):SnV w' v s:=by
 obtain⟨vl,vt,e,hl,hk,he,ht,hi⟩:=h
 exact⟨vl,vt,e,hl.below hb hB,hk,he,ht.below hb hB,hi⟩
def six (w:World) (R:Nat) (x0 x1 x2 x3 x4 x5:Value):World:=(((((w.setCell ⟨R,0,none⟩ x0).setCell ⟨R,1,none⟩ x1).setCell ⟨R,2,none⟩ x2).setCell ⟨R,3,none⟩ x3).setCell ⟨R,4,none⟩ x4).setCell ⟨R,5,none⟩ x5
theorem ZgA {C:Nat} {w0 w:World} (h:Below C w0 w) (R:Nat) (hR:C<=R) (x0 x1 x2 x3 x4 x5:Value):Below C w0 (six w R x0 x1 x2 x3 x4 x5):=
 (((((h.setCell hR _).setCell hR _).setCell hR _).setCell hR _).setCell hR _).setCell hR _
theorem ZdB {C:Nat} {w0 w:World} (h:Below C w0 w) (R:Nat) (hR:C<=R) (x0 x1 x2 x3 x4 x5:Value):Below C w0 ((((((w.setCell ⟨R,0,none⟩ x0).setCell ⟨R,1,none⟩ x1).setCell ⟨R,2,none⟩ x2).setCell ⟨R,3,none⟩ x3).setCell ⟨R,4,none⟩ x4).setCell ⟨R,5,none⟩ x5):=ZgA h R hR x0 x1 x2 x3 x4 x5
theorem ZqL (w:World) (R:Nat) (x0 x1 x2 x3 x4 x5:Value):But R R w (six w R x0 x1 x2 x3 x4 x5):=
 ((((((But.refl R R w).set _ _ (.inl rfl) _).set _ _ (.inl rfl) _).set _ _ (.inl rfl) _).set _ _ (.inl rfl) _).set _ _ (.inl rfl) _).set _ _ (.inl rfl) _
theorem Bn.set {w:World} {b:Nat} {cs:Array Value} (h:Bn w b cs) (j:Nat) (x:Value):Bn (w.setCell ⟨b,j,none⟩ x) b (cs.setIfInBounds j x):=by
 have:=heap_setCell_same w b j _ _ x h
 unfold Bn
 simpa using this
theorem Bn.other {w:World} {b c:Nat} {cs:Array Value} (h:Bn w b cs) (j:Nat) (x:Value) (hne:b≠c):Bn (w.setCell ⟨c,j,none⟩ x) b cs:=(Below.heap_setCell _ _ _ _ hne).trans h
def Zky (w:World) (b o:Nat) (r:Rec):Prop:=
 w.cell? ⟨b,o,none⟩=some (.int .i64 r.idx)∧w.cell? ⟨b,o+1,none⟩=some (.int .i64 r.proc)∧w.cell? ⟨b,o+2,none⟩=some (.int .i64 r.seq)∧w.cell? ⟨b,o+3,none⟩=some (.int .i64 r.op.code)∧w.cell? ⟨b,o+4,none⟩=some (.int .i64 r.op.a)∧w.cell? ⟨b,o+5,none⟩=some (.int .i64 r.op.b)∧w.cell? ⟨b,o+6,none⟩=some (.int .i64 r.resp)
theorem Zky.lt {w:World} {b o:Nat} {r:Rec} (h:Zky w b o r):b<w.heap.size:=World.block_lt_of_cell? w ⟨b,o,none⟩ h.1
theorem Zky.keep {w w':World} {b o:Nat} {r:Rec} (h:Zky w b o r) (hk:w'.heap[b]?=w.heap[b]?):Zky w' b o r:=by
 have hc:∀ i,w'.cell? ⟨b,i,none⟩=w.cell? ⟨b,i,none⟩:=fun i=>World.cell?_of_block (a:=⟨b,i,none⟩) hk
 unfold Zky at h ⊢
 simp only [hc]
 exact h
def RdR (w:World) (v:Value) (l:List Rec):Prop:=
 ∃ ao cap,v=.slice ao l.length cap∧l.length<=cap∧cap<=maxLen∧(ao=none->cap=0)∧(∀ r ∈ l,Zfw r)∧
  (l=[]∨∃ b off,ao=some ⟨b,off,none⟩∧∀ j,j<l.length->Zky w b (off+j*7) (l.getD j Zai))
theorem RdR.nil (w:World):RdR w (.slice none 0 0) []:=⟨none,0,rfl,Nat.le_refl _,Nat.zero_le _,fun _=>rfl,(fun r h=>by simp at h),.inl rfl⟩
theorem RdR.below {w w':World} {v:Value} {l:List Rec} (h:RdR w v l) {B:Nat} (hb:Below B w w') (hB:w.heap.size<=B):RdR w' v l:=by
 obtain⟨ao,cap,h1,h2,h3,hn,hw,h4⟩:=h
 refine⟨ao,cap,h1,h2,h3,hn,hw,?_⟩
 rcases h4 with h4 | ⟨b,off,h5,h6⟩
 ·exact .inl h4
 ·refine .inr ⟨b,off,h5,fun j hj=>?_⟩
  have h7:=h6 j hj
  exact h7.keep (hb.block b (by have:=h7.lt;omega))
def Zam:List Rec->List Value
 | []=>[]
 | r::t=>(ZdG r).toList++Zam t
theorem Zbc:∀ l:List Rec,(Zam l).length=l.length*7
 | []=>rfl
 | r::t=>by
  rw[Zam,List.length_append,Zbc t,List.length_cons]
  simp[ZdG]
  omega
theorem ZcQ:∀ a b:List Rec,Zam (a++b)=Zam a++Zam b
 | [],_=>rfl
 | r::t,b=>by rw[List.cons_append,Zam,ZcQ t b,Zam,List.append_assoc]
theorem ZdR:∀ (l:List Rec) (j k:Nat),j<l.length->k<7->(Zam l)[j*7+k]?=(ZdG (l.getD j Zai))[k]?
 | r::t,0,k,_,hk=>by
  rw[Zam,Nat.zero_mul,Nat.zero_add,List.getElem?_append_left (by simp[ZdG];omega)]
  simp[List.getD]
 | r::t,j+1,k,hj,hk=>by
  have e:(j+1)*7+k=(ZdG r).toList.length+(j*7+k):=by simp[ZdG];omega
  rw[Zam,e,List.getElem?_append_right (by omega),Nat.add_sub_cancel_left,ZdR t j k (by simpa using hj) hk]
  simp[List.getD]
theorem ZdS (l:List Rec):∀ u ∈ Zam l,u.oneCell'=true:=by
 induction l with
 | nil=>intro u hu;simp[Zam] at hu
 | cons r t ih=>
  intro u hu
  rw[Zam] at hu
  rcases List.mem_append.1 hu with h | h
  ·simp[ZdG] at h
   rcases h with rfl | rfl | rfl | rfl | rfl | rfl | rfl <;> rfl
  ·exact ih u h
def Zbp (w:World) (B:Nat) (v:Value) (l:List Rec):Prop:=w.ownsRow B 62 7 v l.length (Zam l)
theorem Zbp.nil (w:World) (B:Nat):Zbp w B (.slice none 0 0) []:=World.ownsRow_nil w B 62 7
theorem Zbp.rd {w:World} {B:Nat} {v:Value} {l:List Rec} (h:Zbp w B v l) (hw:∀ r ∈ l,Zfw r):RdR w v l:=by
 rcases h.2 with ⟨hv,hn⟩ | ⟨g,cap,cur,hv,hb,hg,hnc,hcm,hcs,htake⟩
 ·exact⟨none,0,by rw[hv,hn],by omega,Nat.zero_le _,fun _=>rfl,hw,.inl (List.eq_nil_of_length_eq_zero hn)⟩
 ·refine⟨some ⟨g,0,none⟩,cap,hv,hnc,hcm,(fun e=>by cases e),hw,.inr ⟨g,0,rfl,fun j hj=>?_⟩⟩
  have hc:∀ k u,k<7->(ZdG (l.getD j Zai))[k]?=some u->w.cell? ⟨g,0+j*7+k,none⟩=some u:=fun k u hk hu=>by
   have:=World.ownsRow.cells h (g:=g) (by rw[hv];rfl) (j*7+k) u ((ZdR l j k hj hk).trans hu)
   rw[Addr.add_lit] at this
   rw[Nat.add_assoc]
   exact this
  exact⟨hc 0 _ (by decide) rfl,hc 1 _ (by decide) rfl,hc 2 _ (by decide) rfl,hc 3 _ (by decide) rfl,hc 4 _ (by decide) rfl,hc 5 _ (by decide) rfl,hc 6 _ (by decide) rfl⟩
theorem Zbp.below {w w':World} {B B':Nat} {v:Value} {l:List Rec} (h:Zbp w B v l) (hb:Below B' w w') (hB:w.heap.size<=B'):Zbp w' B v l:=by
 obtain⟨h1,h2⟩:=h
 refine⟨h1,?_⟩
 rcases h2 with h2 | ⟨g,cap,cur,hv,hbg,hg,r⟩
 ·exact .inl h2
 ·have hlt:g<w.heap.size:=(Array.getElem?_eq_some_iff.1 hg).1
  exact .inr ⟨g,cap,cur,hv,hbg,by rw[hb.block g (by omega)];exact hg,r⟩
theorem Zbp.mono {w:World} {B B':Nat} {v:Value} {l:List Rec} (h:Zbp w B v l) (hB:B'<=B):Zbp w B' v l:=by
 obtain⟨h1,h2⟩:=h
 refine⟨h1,?_⟩
 rcases h2 with h2 | ⟨g,cap,cur,hv,hb,r⟩
 ·exact .inl h2
 ·exact .inr ⟨g,cap,cur,hv,by omega,r⟩
theorem Zbp.shape {w:World} {B:Nat} {v:Value} {l:List Rec} (h:Zbp w B v l):∃ ao cap,v=.slice ao l.length cap:=by
 rcases h.2 with ⟨hv,hn⟩ | ⟨g,cap,cur,hv,_⟩
 ·exact⟨none,0,by rw[hv,hn]⟩
 ·exact⟨_,_,hv⟩
theorem Zfp:(Tryz.prog.info? 62).map (fun i=>(i.zero,i.size,i.bytes))=some (some (.agg #[.int .i64 0,.int .i64 0,.int .i64 0,.int .i64 0,.int .i64 0,.int .i64 0,.int .i64 0]),7,56):=by kernel_rfl
theorem Zkz (w:World) (ty:TypeId) (B:Nat) (v:Value) (l:List Rec) (h:Zbp w B v l) (r:Rec) (hlim:l.length<=1000000) (hbase:B<=w.heap.size):
 ∃ v' w',(Builtin.append_ #[29,29] ty #[v,.slice (some ⟨w.heap.size,0,none⟩) 1 1]).run Tryz.prog (w.alloc (.cells (ZdG r) 62))=.ok v' w'∧Zbp w' B v' (l++[r])∧Below B w w':=by
 obtain⟨i0,hi,hz0,hz1,hz2⟩:=info_parts Zfp
 obtain⟨v',w',hrun,ho,hg,_⟩:=run_append_own (P:=Tryz.prog) (w.alloc (.cells (ZdG r) 62)) B 29 ty 62 i0 _ 7 56 Tryz.underlying29 hi hz0 hz1 hz2 rfl (by decide) v l.length (Zam l) (h.alloc _)
  ⟨w.heap.size,0,none⟩ 1 1 (Zam [r]) (Zbc [r]) (fun j u hj=>by
   rw[Addr.add_lit,Nat.zero_add,cell_of_row _ w.heap.size j _ 62 (0,0) (heap_alloc_new w _)]
   simpa[Zam] using hj) (ZdS [r]) (by unfold maxLen;omega) (by omega) (by simp;omega)
 refine⟨v',w',hrun,?_,?_⟩
 ·unfold Zbp
  rw[List.length_append,ZcQ]
  exact ho
 ·exact((Below.refl _ _).alloc hbase _).grown hg (by simp;omega) (fun k hk=>(World.ownsRow.lt h k hk).1)
theorem Zht (w:World) {ops:Array Oper} {rest:List Oper} {o:Oper} {a:Act} {Q:Exit->Act->World->Prop} (hgd:o.guard=none) (s x:Operand)
 (ho:o.op=.call { callee:=.builtin .append,args:=#[s,x],argTypes:=#[29,29] })
 (B:Nat) (v:Value) (l:List Rec) (hs:a.eval s=v) (hown:Zbp w B v l) (r:Rec) (hx:a.eval x=.slice (some ⟨w.heap.size,0,none⟩) 1 1)
 (hlim:l.length<=1000000) (hbase:B<=w.heap.size)
 (h:∀ v' w',Zbp w' B v' (l++[r])->Below B w w'->wpList Tryz.prog ops Q rest (a.put o.dst v') w'):wpList Tryz.prog ops Q (o::rest) a (w.alloc (.cells (ZdG r) 62)):=
 wpList_plain hgd fun _ hK=>by
  obtain⟨v',w',hrun,h2,h3⟩:=Zkz w o.type B v l hown r hlim hbase
  unfold Oper.wp execOp
  simp only [ho,resolve,invoke,builtin,Sem.run_bind,Sem.run_pure,Result.andThen_ok,List.map_toArray,List.map_cons,List.map_nil,hs,hx,hrun]
  exact hK _ _ (h v' w' h2 h3)
theorem ZgB:Tryz.prog.elem 29=62:=by kernel_rfl
theorem Zds:Tryz.prog.underlying 29=some (.slice (Tryz.prog.elem 29)):=by rw[ZgB];exact Tryz.underlying29
theorem Zmc (w:World):(sizeOf 62).run Tryz.prog w=.ok 7 w:=by
 obtain⟨i0,hi,_,hz1,_⟩:=info_parts Zfp
 simp[sizeOf,typeInfo,hi,hz1]
theorem Br.set {w:World} {b:Nat} {cs:Array Value} (h:Br w b cs) (j:Nat) (x:Value):Br (w.setCell ⟨b,j,none⟩ x) b (cs.setIfInBounds j x):=by
 have:=heap_setCell_same w b j _ _ x h
 unfold Br
 simpa using this
theorem ZfB (n lo hi:Int) (a b:Nat) (w:World) (ha:w.cell? ⟨a,0,none⟩=some (.int .i64 lo)) (hb:w.cell? ⟨b,0,none⟩=some (.int .i64 hi)):
 Calls Tryz.prog 170 #[.int .i64 n,.pointer (some ⟨a,0,none⟩),.pointer (some ⟨b,0,none⟩)] w fun e w'=>e=.returned (.bool (decide (lo<=n∧n<=hi)))∧w'=w:=by
 have HD:Hid ((decide (lo<=n) && decide (n<=hi))=decide (lo<=n∧n<=hi)):=(Bool.decide_and _ _).symm
 have HT:Hid (lo<=n->decide (n<=hi)=decide (lo<=n∧n<=hi)):=fun h=>by rw[<-HD.out,decide_eq_true h,Bool.true_and]
 by_cases h1:lo<=n
 ·go_enter Tryz.func170,Tryz.ntmps170
  go_wp2
  go_ret
  exact⟨ZbJ (HT.out h1),rfl⟩
 ·go_enter Tryz.func170,Tryz.ntmps170
  go_wp2
  go_ret
  exact⟨ZbJ (by rw[decide_eq_false (Int.not_le.2 h1),Bool.false_and]),rfl⟩
theorem Zcg (lo hi:Int) (w:World):
 Calls Tryz.prog 121 #[.int .i64 lo,.int .i64 hi] w fun e w'=>∃ a b,e=.returned (.func (.func 170) #[] #[.pointer (some ⟨a,0,none⟩),.pointer (some ⟨b,0,none⟩)])∧w'.cell? ⟨a,0,none⟩=some (.int .i64 lo)∧w'.cell? ⟨b,0,none⟩=some (.int .i64 hi)∧Below w.heap.size w w':=by
 have hmf:∀ (fn:Fn) (first cap:Array Value) (w:World),(Instr.makeFunc fn first cap).run Tryz.prog w=.ok (.func fn first cap) w:=fun _ _ _ _=>rfl
 have HB:Hid (∀ x y,Below w.heap.size w ((w.alloc x).alloc y)):=fun x y=>((Below.refl _ _).alloc zL x).alloc (by simp) y
 go_enter Tryz.func121,Tryz.ntmps121
 go_wp2
 go_ret
 refine⟨_,_,rfl,?_,?_,HB.out _ _⟩
 ·rw[World.cell?_alloc_past _ _ _ (by simp),World.cell?_alloc_at _ _ _ _ rfl];rfl
 ·rw[World.cell?_alloc_at _ _ _ _ (by simp)];rfl
theorem Zhu (n:Int):max (-1099511627776) (min n 1099511627776)=ZdY n:=by
 unfold ZdY
 split
 ·omega
 ·split <;> omega
theorem ZgC (n:Int) (w:World):Calls Tryz.prog 173 #[.int .i64 n] w fun e w'=>e=.returned (.int .i64 (ZdY n))∧w'=w:=by
 by_cases h1:1099511627776<n
 ·go_enter Tryz.func173,Tryz.ntmps173
  go_wp2
  go_ret
  refine⟨Zxn ?_,rfl⟩
  first
   | exact Zhu n
   | (unfold ZdY;split <;> (try split) <;> omega)
 by_cases h2:n<=-1099511627776
 ·go_enter Tryz.func173,Tryz.ntmps173
  go_wp2
  go_ret
  refine⟨Zxn ?_,rfl⟩
  first
   | exact Zhu n
   | (unfold ZdY;split <;> (try split) <;> omega)
 ·go_enter Tryz.func173,Tryz.ntmps173
  go_wp2
  go_ret
  refine⟨Zxn ?_,rfl⟩
  first
   | exact Zhu n
   | (unfold ZdY;split <;> (try split) <;> omega)
theorem Zmd (ao:Option Addr) (n cap:Nat) (w:World):Calls Tryz.prog 177 #[.slice ao n cap] w fun e w'=>e=.returned (.bool (decide (n=128)))∧w'=w:=by
 by_cases h:n=128
 ·have HD:Hid (decide (n=128)=true):=decide_eq_true h
  have hq:((n:Int) == 128)=true:=beq_iff_eq.2 (by omega)
  clear h
  go_enter Tryz.func177,Tryz.ntmps177
  go_wp2
  go_ret
  exact⟨ZbJ HD.out.symm,rfl⟩
 ·have HD:Hid (decide (n=128)=false):=decide_eq_false h
  have hq:((n:Int) == 128)=false:=beq_eq_false_iff_ne.2 (by omega)
  clear h
  go_enter Tryz.func177,Tryz.ntmps177
  go_wp2
  go_ret
  exact⟨ZbJ HD.out.symm,rfl⟩
theorem ZqM {a b:Int} {c d:Bool} (h:a=b) (h2:c=d):Ending.returned (.tuple #[.int .i64 a,.bool c])=.returned (.tuple #[.int .i64 b,.bool d]):=by rw[h,h2]
theorem Zuk (v:Value) (l:List Int) (key:Int) (w:World) (hr:RdI w v l) (he:l.length % 2=0) (hlim:l.length<=1000000):
 Calls Tryz.prog 211 #[v,.int .i64 key] w fun e w'=>e=.returned (.tuple #[.int .i64 (Zao key l),.bool (decide (Zao key l<l.length∧l.getD (Zao key l) 0=key))])∧Below w.heap.size w w':=by
 obtain⟨ao,cap,rfl,-,-,-,-,hao⟩:=hr
 have HAO:=Zac hao
 clear hao
 obtain⟨P,hP⟩:∃ P,P=Zao key l:=⟨_,rfl⟩
 obtain⟨R,hR⟩:∃ R,R=decide (P<l.length∧l.getD P 0=key):=⟨_,rfl⟩
 rw[<-hP,<-hR]
 have HP:=Zac hP
 have HR:=Zac hR
 clear hP hR
 go_enter Tryz.func211,Tryz.ntmps211
 go_wp2
 go_loop [6] (fun i=>∃ k:Nat,i=.int .i64 k∧k<=l.length∧k % 2=0∧Hid (∀ j,j<k->j % 2=0->l.getD j 0<key)) (fun i=>l.length-(intOf i).toNat)
 case atStart=>exact⟨0,rfl,Nat.zero_le _,rfl,fun j hj=>by omega⟩
 case round=>
  obtain⟨k,rfl,hk,hk2,hall⟩:=hrel
  have HPK:Hid (P=k+Zao key (l.drop k)):=HP.out.trans (ZiV key l k he hk2 hk hall.out)
  by_cases hlt:k<l.length
  ·rcases HAO.out with h0 | ⟨g,off,rfl,hc⟩
   ·rw[h0] at hlt;simp at hlt
   have hck:=hc k hlt
   clear hc
   obtain⟨y,hy⟩:∃ y,y=l.getD k 0:=⟨_,rfl⟩
   rw[<-hy] at hck
   have HY:=Zac hy
   clear hy
   by_cases hge:key<=y
   ·have HK:Hid (P=k):=HPK.out.trans (by rw[ZoR key l k (by omega) (by rw[<-HY.out];exact hge)];exact Nat.add_zero k)
    have HG:Hid (R=(y == key)):=by
     rw[HR.out,HK.out,<-HY.out]
     by_cases e:y=key
     ·rw[beq_iff_eq.2 e];exact decide_eq_true ⟨hlt,e⟩
     ·rw[beq_eq_false_iff_ne.2 e];exact decide_eq_false (fun h=>e h.2)
    have hbk:(k:Int)<(l.length:Int):=by omega
    go_wp2
    go_quiet(fail)
    go_wp2
    go_ret2
    exact⟨ZqM (by rw[HK.out]) HG.out.symm,Zaz (Below.refl _ _) _⟩
   ·go_wp2
    go_round
    case rel=>
     refine⟨k+2,by go_num,by omega,by omega,fun j hj hj2=>?_⟩
     by_cases e:j=k
     ·rw[e,<-HY.out];omega
     ·exact hall.out j (by omega) hj2
    case measure=>simp[intOf];omega
  ·have HK:Hid (P=l.length):=by
    have e:k=l.length:=by omega
    rw[HPK.out,e,List.drop_length]
    exact rfl
   have HG:Hid (R=false):=HR.out.trans (decide_eq_false (fun h=>by have:=h.1;rw[HK.out] at this;omega))
   go_wp2
   go_ret2
   exact⟨ZqM (by rw[HK.out]) HG.out.symm,Below.refl _ _⟩
theorem Zhv (v:Value) (l:List Int) (key least lo:Int) (w:World) (hr:RdI w v l) (hp:Zaq least lo l) (hlim:l.length<=1000000):
 Calls Tryz.prog 211 #[v,.int .i64 key] w fun e w'=>e=.returned (.tuple #[.int .i64 (Zao key l),.bool (Zdg key l)])∧Below w.heap.size w w':=by
 rw[(Zei key least l lo hp).1]
 exact Zuk v l key w hr (Zee hp) hlim
theorem ZcR {least:Int}:∀ {l:List Int} {lo:Int},-1099511627776<=least->-1<=lo->Zaq least lo l->∀ x ∈ l,I64 x
 | [],_,_,_,_,x,hx=>by simp at hx
 | [_],_,_,_,h,_,_=>by simp[Zaq] at h
 | a::b::r,lo,hl,hlo,h,x,hx=>by
  unfold Zaq at h
  have ih:=ZcR (l:=r) (lo:=a) hl (by omega) h.2.2.2.2 x
  simp at hx
  rcases hx with rfl | rfl | hx
  ·exact Zaj (by omega) (by omega)
  ·exact Zaj (by omega) (by omega)
  ·exact ih hx
theorem Ziu (v:Value) (l:List Int) (key least lo:Int) (w:World) (hr:RdI w v l) (hp:Zaq least lo l) (hlim:l.length<=1000000):
 Calls Tryz.prog 175 #[v,.int .i64 key] w fun e w'=>e=.returned (.tuple #[.int .i64 ((ZbU key l).getD 0),.bool (Zdg key l)])∧Below w.heap.size w w':=by
 have HPL:Hid (Calls Tryz.prog 211 #[v,.int .i64 key] w fun e w'=>e=.returned (.tuple #[.int .i64 (Zao key l),.bool (Zdg key l)])∧Below w.heap.size w w'):=Zhv v l key least lo w hr hp hlim
 have HH:=Zac (Zei key least l lo hp).2
 obtain⟨ao,cap,rfl,-,-,-,-,hao⟩:=hr
 have HAO:=Zac hao
 obtain⟨G,hG⟩:∃ G,G=(ZbU key l).getD 0:=⟨_,rfl⟩
 rw[<-hG]
 have HG:=Zac hG
 clear hao hp hG
 cases hh:Zdg key l
 ·rw[hh] at HPL
  have HZ:Hid (0=G):=by
   have:ZbU key l=none:=by
    unfold Zdg at hh
    cases h:ZbU key l with
    | none=>rfl
    | some x=>rw[h] at hh;simp at hh
   rw[HG.out,this]
   exact rfl
  clear hh HH
  go_enter Tryz.func175,Tryz.ntmps175
  go_wp2_with fail
  refine HPL.out.mono ?_
  rintro e W1 ⟨rfl,hb1⟩
  have HB1:=Zac hb1
  clear hb1
  go_wp2
  go_ret2
  exact⟨ZqM HZ.out rfl,HB1.out⟩
 ·rw[hh] at HPL
  obtain⟨h1,h2⟩:=HH.out hh
  have HZ:Hid (l.getD (Zao key l+1) 0=G):=by
   rw[HG.out,h1]
   exact rfl
  rcases HAO.out with h0 | ⟨g,off,rfl,hc⟩
  ·rw[h0] at h2;simp at h2
  have HC:Hid (∀ W,Below w.heap.size w W->W.cell? ⟨g,off+(Zao key l+1),none⟩=some (.int .i64 (l.getD (Zao key l+1) 0))):=fun W h=>(h.cell (World.block_lt_of_cell? w ⟨g,off+(Zao key l+1),none⟩ (hc _ h2))).trans (hc _ h2)
  clear hh HH h1 HAO hc HG
  generalize l.getD (Zao key l+1) 0=y at *
  generalize Zao key l=P at *
  have hPl:(P:Int)+1<(l.length:Int):=by omega
  clear h2
  go_enter Tryz.func175,Tryz.ntmps175
  go_wp2_with fail
  refine HPL.out.mono ?_
  rintro e W1 ⟨rfl,hb1⟩
  have HB1:=Zac hb1
  have hg:=HC.out _ hb1
  clear hb1
  go_wp2
  go_ret2
  exact⟨ZqM HZ.out rfl,HB1.out⟩
theorem Ziv (v:Value) (l:List Int) (key n least lo:Int) (B:Nat) (w:World) (ho:Zax w B v l) (hB:B<=w.heap.size) (hi:∀ x ∈ l,I64 x) (hp:Zaq least lo l) (hlim:l.length<=1000000):
 Calls Tryz.prog 178 #[v,.int .i64 key,.int .i64 n] w fun e w'=>∃ v',e=.returned v'∧Zax w' B v' (ZaJ key n false l)∧Mv w w' v v':=by
 have HPL:Hid (Calls Tryz.prog 211 #[v,.int .i64 key] w fun e w'=>e=.returned (.tuple #[.int .i64 (Zao key l),.bool (Zdg key l)])∧Below w.heap.size w w'):=Zhv v l key least lo w (ho.rd hi) hp hlim
 have hle:=(ZiU key l (Zee hp)).1
 have HH:=Zac (Zei key least l lo hp).2
 have HO:=Zac ho
 cases hh:Zdg key l
 ·rw[hh] at HPL
  have HW:=Zac (ZhO key n least l lo hp hh)
  have HI:Hid (∀ W,Zax W B v l->B<=W.heap.size->Calls Tryz.prog 212 #[v,.int .i64 (Zao key l),.slice (some ⟨W.heap.size,0,none⟩) 2 2] (W.alloc (.cells #[.int .i64 key,.int .i64 n] 3)) fun e w'=>∃ v',e=.returned v'∧Zax w' B v' (l.take (Zao key l)++([key,n]++l.drop (Zao key l)))∧Mv W w' v v'):=
   fun W h1 h2=>Zpm v l B W h1 h2 hlim (Zao key l) hle _ rfl key n _ rfl
  obtain⟨L',hL'⟩:∃ L',L'=ZaJ key n false l:=⟨_,rfl⟩
  rw[<-hL']
  rw[<-hL'] at HW
  have HWS:=Zac HW.out.symm
  rw[HWS.out] at HI
  clear hL' HW HWS ho hp HH hh hle
  generalize Zao key l=P at *
  go_enter Tryz.func178,Tryz.ntmps178
  go_wp2_with fail
  refine HPL.out.mono ?_
  rintro e W1 ⟨rfl,hb1⟩
  have HB1:=Zac hb1
  clear hb1
  go_wp2_with fail
  refine(HI.out W1 (HO.out.below HB1.out zL) (Nat.le_trans hB HB1.out.size)).mono ?_
  rintro e W2 ⟨v2,rfl,ho2,hb2⟩
  have HB2:=Zac ((Mv.ofBelow HB1.out v).trans hb2)
  have HO2:=Zac ho2
  clear hb2 ho2
  go_wp2
  go_ret
  exact⟨_,rfl,HO2.out,HB2.out⟩
 ·rw[hh] at HPL
  have HW:=Zac (Znd key n least l lo hp hh)
  obtain⟨h1,h2⟩:=HH.out hh
  obtain⟨L',hL'⟩:∃ L',L'=ZaJ key n false l:=⟨_,rfl⟩
  rw[<-hL']
  rw[<-hL'] at HW
  have hsh:=ho.put _ h2 n
  obtain⟨g,cap,rfl,-,-,hBg,hgl,-,-⟩:=hsh
  have HS:Hid (∀ W,Below w.heap.size w W->W.cell? ⟨g,Zao key l+1,none⟩=some (.int .i64 (l.getD (Zao key l+1) 0))∧W.frozen? ⟨g,Zao key l+1,none⟩=false∧Zax (W.setCell ⟨g,Zao key l+1,none⟩ (.int .i64 n)) B (.slice (some ⟨g,0,none⟩) l.length cap) L'∧Mv w (W.setCell ⟨g,Zao key l+1,none⟩ (.int .i64 n)) (.slice (some ⟨g,0,none⟩) l.length cap) (.slice (some ⟨g,0,none⟩) l.length cap)):=fun W hb=>by
   obtain⟨g',cap',hv,h3,h4,h5,h6,h7,h8⟩:=(HO.out.below hb zL).put _ h2 n
   simp only [Value.slice.injEq,Option.some.injEq,Addr.mk.injEq] at hv
   obtain⟨⟨rfl,_⟩,_,rfl⟩:=hv
   exact⟨h3,h4,by rw[HW.out];exact h7,(Mv.ofBelow hb _).trans h8⟩
  clear hL' HW ho hp HH hh hle h1 HO hi
  generalize l.getD (Zao key l+1) 0=y at *
  generalize Zao key l=P at *
  have hPl:(P:Int)+1<(l.length:Int):=by omega
  clear h2
  go_enter Tryz.func178,Tryz.ntmps178
  go_wp2_with fail
  refine HPL.out.mono ?_
  rintro e W1 ⟨rfl,hb1⟩
  obtain⟨c1,f1,o1,b1⟩:=HS.out _ hb1
  have HO1:=Zac o1
  have HB1:=Zac b1
  clear hb1 o1 b1
  go_wp2
  go_ret
  exact⟨_,rfl,HO1.out,HB1.out⟩
theorem ZvZ (v:Value) (l:List Int) (key least lo:Int) (B:Nat) (w:World) (ho:Zax w B v l) (hi:∀ x ∈ l,I64 x) (hp:Zaq least lo l) (hlim:l.length<=1000000):
 Calls Tryz.prog 176 #[v,.int .i64 key] w fun e w'=>∃ v',e=.returned v'∧Zax w' B v' (ZaU key l)∧Mv w w' v v':=by
 have HPL:Hid (Calls Tryz.prog 211 #[v,.int .i64 key] w fun e w'=>e=.returned (.tuple #[.int .i64 (Zao key l),.bool (Zdg key l)])∧Below w.heap.size w w'):=Zhv v l key least lo w (ho.rd hi) hp hlim
 have hle:=(ZiU key l (Zee hp)).1
 have HH:=Zac (Zei key least l lo hp).2
 have HO:=Zac ho
 cases hh:Zdg key l
 ·rw[hh] at HPL
  have HW:=Zac (ZhP key least l lo hp hh)
  rw[HW.out]
  clear HW ho hp HH hh hle hi
  generalize Zao key l=P at *
  go_enter Tryz.func176,Tryz.ntmps176
  go_wp2_with fail
  refine HPL.out.mono ?_
  rintro e W1 ⟨rfl,hb1⟩
  have HB1:=Zac hb1
  clear hb1
  go_wp2
  go_ret
  exact⟨_,rfl,HO.out.below HB1.out zL,Mv.ofBelow HB1.out v⟩
 ·rw[hh] at HPL
  have HW:=Zac (ZhQ key least l lo hp hh)
  obtain⟨h1,h2⟩:=HH.out hh
  have HD:Hid (∀ W J,Zax W B v l->J=((Zao key l+2:Nat):Int)->Calls Tryz.prog 210 #[v,.int .i64 (Zao key l),.int .i64 J] W fun e w'=>∃ v',e=.returned v'∧Zax w' B v' (l.take (Zao key l)++l.drop (Zao key l+2))∧Mv W w' v v'):=
   fun W J h3 h4=>Zjq v l B W h3 (Zao key l) (Zao key l+2) (by omega) (by omega) _ _ rfl h4
  obtain⟨L',hL'⟩:∃ L',L'=ZaU key l:=⟨_,rfl⟩
  rw[<-hL']
  rw[<-hL'] at HW
  have HWS:=Zac HW.out.symm
  rw[HWS.out] at HD
  clear hL' HW HWS ho hp HH hh hle h1
  generalize Zao key l=P at *
  have hPl:(P:Int)+1<(l.length:Int):=by omega
  clear h2
  go_enter Tryz.func176,Tryz.ntmps176
  go_wp2_with fail
  refine HPL.out.mono ?_
  rintro e W1 ⟨rfl,hb1⟩
  have HB1:=Zac hb1
  clear hb1
  go_wp2_with fail
  refine(HD.out W1 _ (HO.out.below HB1.out zL) (by omega)).mono ?_
  rintro e W2 ⟨v2,rfl,ho2,hb2⟩
  have HB2:=Zac ((Mv.ofBelow HB1.out v).trans hb2)
  have HO2:=Zac ho2
  clear hb2 ho2
  go_wp2
  go_ret
  exact⟨_,rfl,HO2.out,HB2.out⟩
def ZfY (B:Nat) (w:World) (v:Value) (L:List Int) (n:Int) (e:Ending) (w':World):Prop:=
 ∃ v',e=.returned (.tuple #[v',.int .i64 n])∧Zax w' B v' L∧Mv w w' v v'
theorem Zax.alloc {w:World} {B:Nat} {v:Value} {l:List Int} (h:Zax w B v l) (X:Obj):Zax (w.alloc X) B v l:=World.ownsRow.alloc h X
theorem Zax.single {w:World} {B:Nat} {v:Value} {l:List Int} (h:Zax w B v l) (hl:l.length=1):
 ∃ g cap,v=.slice (some ⟨g,0,none⟩) 1 cap∧(∀ X,(w.alloc X).cell? ⟨g,0,none⟩=some (.int .i64 (l.getD 0 0))∧(w.alloc X).frozen? ⟨g,0,none⟩=false)∧g<w.heap.size∧
  ∀ X n,Zax ((w.setCell ⟨g,0,none⟩ (.int .i64 n)).alloc X) B v [n]∧Mv w ((w.setCell ⟨g,0,none⟩ (.int .i64 n)).alloc X) v v:=by
 obtain⟨g,cap,rfl,-,-,hBg,hg,-,-⟩:=h.put 0 (by omega) 0
 refine⟨g,cap,by rw[hl],fun X=>?_,hg,fun X n=>?_⟩
 ·obtain⟨g',cap',hv,h3,h4,_⟩:=(h.alloc X).put 0 (by omega) 0
  simp only [Value.slice.injEq,Option.some.injEq,Addr.mk.injEq] at hv
  obtain⟨⟨rfl,_⟩,_,rfl⟩:=hv
  exact⟨h3,h4⟩
 ·obtain⟨g',cap',hv,h3,h4,_,_,h7,h8⟩:=h.put 0 (by omega) n
  simp only [Value.slice.injEq,Option.some.injEq,Addr.mk.injEq] at hv
  obtain⟨⟨rfl,_⟩,_,rfl⟩:=hv
  have e:l.set 0 n=[n]:=by
   match l,hl with
   | [_],_=>rfl
  rw[e] at h7
  exact⟨h7.alloc X,h8.trans (Mv.alloc _ _ X)⟩
theorem Zps (v:Value) (l:List Int) (o:Opn) (shut:Bool) (g:Int) (B:Nat) (w:World) (ho:Zax w B v l) (hl:l.length=1) (hb0:-1099511627776<=l.getD 0 0) (hb1:l.getD 0 0<=1099511627776):
 Calls Tryz.prog 124 #[v,opV o] w fun e w'=>e=.returned (.int .i64 (Zgg ⟨0,l,shut,g⟩ o).2)∧Zax w' B v (Zgg ⟨0,l,shut,g⟩ o).1.L∧Mv w w' v v:=by
 obtain⟨code,a,b⟩:=o
 have HO:=Zac ho
 have HBA:Hid (∀ X,Mv w (w.alloc X) v v):=fun X=>Mv.alloc w v X
 have HC:=Zac (fun n w=>ZgC n w)
 obtain⟨c,cap,rfl,hcell,hlt,hput⟩:=ho.single hl
 have HPT:=Zac hput
 have hc:=fun X=>(hcell X).1
 have hf:=fun X=>(hcell X).2
 clear hput ho hcell
 obtain⟨n,hn⟩:∃ n,n=l.getD 0 0:=⟨_,rfl⟩
 rw[<-hn] at hb0 hb1
 simp only [<-hn] at hc
 have HN:=Zac hn
 have hca:=Zep a
 clear hn hl
 show Calls Tryz.prog _ #[_,.agg #[.int .i64 code,.int .i64 a,.int .i64 b]] w _
 by_cases c1:code=1
 ·subst c1
  have HE:Hid (Zgg ⟨0,l,shut,g⟩ ⟨1,a,b⟩=(⟨0,[ZdY (n+ZdY a)],shut,g⟩,n)):=by rw[HN.out];exact if_pos ⟨rfl,rfl⟩
  rw[HE.out]
  go_enter Tryz.func124,Tryz.ntmps124
  go_wp2_with(first | (go_at_call 173;refine(HC.out _ _).mono ?_;rintro e w2 ⟨rfl,rfl⟩))
  go_ret
  exact⟨rfl,HPT.out _ _⟩
 ·have e1:(code == 1)=false:=beq_eq_false_iff_ne.2 c1
  by_cases c7:code=7
  ·have e7:(code == 7)=true:=beq_iff_eq.2 c7
   have HE:Hid (Zgg ⟨0,l,shut,g⟩ ⟨code,a,b⟩=(⟨0,l,shut,g⟩,n)):=by
    rw[HN.out]
    unfold Zgg
    rw[if_neg (by simp;omega),if_neg (by simp),if_pos c7]
    exact rfl
   rw[HE.out]
   clear c1 c7
   go_enter Tryz.func124,Tryz.ntmps124
   go_wp2
   go_ret
   exact⟨rfl,HO.out.alloc _,HBA.out _⟩
  ·have e7:(code == 7)=false:=beq_eq_false_iff_ne.2 c7
   have HE:Hid (Zgg ⟨0,l,shut,g⟩ ⟨code,a,b⟩=(⟨0,l,shut,g⟩,0)):=by
    unfold Zgg
    rw[if_neg (by simp;omega),if_neg (by simp),if_neg c7]
    exact rfl
   rw[HE.out]
   clear c1 c7
   go_enter Tryz.func124,Tryz.ntmps124
   go_wp2
   go_ret
   exact⟨rfl,HO.out.alloc _,HBA.out _⟩
theorem Zny (v:Value) (l:List Int) (o:Opn) (shut:Bool) (g:Int) (B:Nat) (w:World) (ho:Zax w B v l) (hl:l.length=1):
 Calls Tryz.prog 125 #[v,opV o] w fun e w'=>e=.returned (.int .i64 (Zgg ⟨1,l,shut,g⟩ o).2)∧Zax w' B v (Zgg ⟨1,l,shut,g⟩ o).1.L∧Mv w w' v v:=by
 obtain⟨code,a,b⟩:=o
 have HO:=Zac ho
 have HBA:Hid (∀ X,Mv w (w.alloc X) v v):=fun X=>Mv.alloc w v X
 have HC:=Zac (fun n w=>ZgC n w)
 obtain⟨c,cap,rfl,hcell,hlt,hput⟩:=ho.single hl
 have HPT:=Zac hput
 have hc:=fun X=>(hcell X).1
 have hf:=fun X=>(hcell X).2
 clear hput ho hcell
 obtain⟨n,hn⟩:∃ n,n=l.getD 0 0:=⟨_,rfl⟩
 simp only [<-hn] at hc
 have HN:=Zac hn
 clear hn hl
 show Calls Tryz.prog _ #[_,.agg #[.int .i64 code,.int .i64 a,.int .i64 b]] w _
 by_cases c1:code=2
 ·subst c1
  have HE:Hid (Zgg ⟨1,l,shut,g⟩ ⟨2,a,b⟩=(⟨1,[ZdY a],shut,g⟩,n)):=by rw[HN.out];exact rfl
  rw[HE.out]
  go_enter Tryz.func125,Tryz.ntmps125
  go_wp2_with(first | (go_at_call 173;refine(HC.out _ _).mono ?_;rintro e w2 ⟨rfl,rfl⟩))
  go_ret
  exact⟨rfl,HPT.out _ _⟩
 ·have e1:(code == 2)=false:=beq_eq_false_iff_ne.2 c1
  by_cases c7:code=7
  ·have e7:(code == 7)=true:=beq_iff_eq.2 c7
   have HE:Hid (Zgg ⟨1,l,shut,g⟩ ⟨code,a,b⟩=(⟨1,l,shut,g⟩,n)):=by
    rw[HN.out]
    unfold Zgg
    rw[if_neg (by simp),if_neg (by simp;omega),if_pos c7]
    exact rfl
   rw[HE.out]
   clear c1 c7
   go_enter Tryz.func125,Tryz.ntmps125
   go_wp2
   go_ret
   exact⟨rfl,HO.out.alloc _,HBA.out _⟩
  ·have e7:(code == 7)=false:=beq_eq_false_iff_ne.2 c7
   have HE:Hid (Zgg ⟨1,l,shut,g⟩ ⟨code,a,b⟩=(⟨1,l,shut,g⟩,0)):=by
    unfold Zgg
    rw[if_neg (by simp),if_neg (by simp;omega),if_neg c7]
    exact rfl
   rw[HE.out]
   clear c1 c7
   go_enter Tryz.func125,Tryz.ntmps125
   go_wp2
   go_ret
   exact⟨rfl,HO.out.alloc _,HBA.out _⟩
theorem ZxG (kind:Int) (hk:kind=2∨kind=3) (v:Value) (l:List Int) (shut:Bool) (g a b:Int) (B:Nat) (w:World) (ho:Zax w B v l) (hi:∀ x ∈ l,I64 x) (h64:l.length<=64):
 Calls Tryz.prog 174 #[.int .i64 kind,v] w fun e w'=>ZfY B w v (ZbX ⟨kind,l,shut,g⟩ ⟨4,a,b⟩).1.L (ZbX ⟨kind,l,shut,g⟩ ⟨4,a,b⟩).2 e w':=by
 have HO:=Zac ho
 have hsh:=ho.shape
 by_cases h0:l.length=0
 ·have HE:Hid (ZbX ⟨kind,l,shut,g⟩ ⟨4,a,b⟩=(⟨kind,l,shut,g⟩,-1)):=by
   unfold ZbX
   rw[if_neg (by simp),if_pos rfl,if_pos h0]
   exact rfl
  rw[HE.out]
  obtain⟨ao,cap,rfl⟩:=hsh
  rw[h0]
  have HO0:Hid (Zax w B (.slice ao 0 cap) l):=by
   have h:=HO.out
   rwa [h0] at h
  clear HO ho h0 HE hi h64
  go_enter Tryz.func174,Tryz.ntmps174
  go_wp2
  go_ret2
  exact⟨_,rfl,HO0.out,Mv.refl _ _⟩
 ·have hne:((l.length:Int) == 0)=false:=beq_eq_false_iff_ne.2 (by omega)
  have hne':l≠[]:=fun h=>h0 (by rw[h];rfl)
  have hrd:=ho.rd hi
  obtain⟨ao,cap,rfl⟩:=hsh
  have HD:Hid (∀ i:Nat,i<l.length->∀ I J,I=(i:Int)->J=((i+1:Nat):Int)->Calls Tryz.prog 210 #[.slice ao l.length cap,.int .i64 I,.int .i64 J] w fun e w'=>∃ v',e=.returned v'∧Zax w' B v' (l.take i++l.drop (i+1))∧Mv w w' (.slice ao l.length cap) v'):=
   fun i hi I J h1 h2=>Zjq _ l B w HO.out i (i+1) (by omega) (by omega) I J h1 h2
  obtain⟨ao',cap',hv,-,-,-,-,hao⟩:=hrd
  simp only [Value.slice.injEq] at hv
  obtain⟨rfl,-,rfl⟩:=hv
  rcases hao with hx | ⟨c,off,rfl,hc⟩
  ·exact absurd hx hne'
  rcases hk with rfl | rfl
  ·have HE:Hid (ZbX ⟨2,l,shut,g⟩ ⟨4,a,b⟩=(⟨2,l.take 0++l.drop (0+1),shut,g⟩,l.getD 0 0)):=by
    unfold ZbX
    rw[if_neg (by simp),if_pos rfl,if_neg h0,if_pos rfl]
    exact rfl
   rw[HE.out]
   have hc0:=hc 0 (by omega)
   rw[Nat.add_zero] at hc0
   have HDD:=Zac (HD.out 0 (by omega))
   have hbk:(0:Int)<(l.length:Int):=by omega
   generalize l.getD 0 0=y at *
   generalize l.take 0++l.drop (0+1)=L' at *
   clear hc HD HE h0 hne' ho hi HO
   go_enter Tryz.func174,Tryz.ntmps174
   go_wp2_with fail
   refine(HDD.out _ _ (by simp) (by simp)).mono ?_
   rintro e W1 ⟨v1,rfl,ho1,hb1⟩
   have HO1:=Zac ho1
   have HB1:=Zac hb1
   clear ho1 hb1
   go_wp2
   go_ret2
   exact⟨_,rfl,HO1.out,HB1.out⟩
  ·have HE:Hid (ZbX ⟨3,l,shut,g⟩ ⟨4,a,b⟩=(⟨3,l.take (l.length-1)++l.drop (l.length-1+1),shut,g⟩,l.getD (l.length-1) 0)):=by
    unfold ZbX
    rw[if_neg (by simp),if_pos rfl,if_neg h0,if_neg (by simp)]
    have e:l.drop (l.length-1+1)=[]:=List.drop_of_length_le (by omega)
    rw[e,List.append_nil]
    exact rfl
   rw[HE.out]
   have hc0:=hc (l.length-1) (by omega)
   have HDD:=Zac (HD.out (l.length-1) (by omega))
   obtain⟨M,hM⟩:∃ M,M=l.length-1:=⟨_,rfl⟩
   rw[<-hM] at hc0 HDD ⊢
   have hlen:l.length=M+1:=by omega
   generalize l.getD M 0=y at *
   generalize l.take M++l.drop (M+1)=L' at *
   clear hc HD HE h0 hne' ho hi HO hM hne
   rw[hlen] at HDD ⊢
   have hM64:(M:Int)<64:=by omega
   clear hlen h64
   go_enter Tryz.func174,Tryz.ntmps174
   go_wp2_with fail
   refine(HDD.out _ _ (by simp) (by simp)).mono ?_
   rintro e W1 ⟨v1,rfl,ho1,hb1⟩
   have HO1:=Zac ho1
   have HB1:=Zac hb1
   clear ho1 hb1
   go_wp2
   go_ret2
   exact⟨_,rfl,HO1.out,HB1.out⟩
theorem Zbu {v:Value} {a b:Int} (h:a=b):Ending.returned (.tuple #[v,.int .i64 a])=.returned (.tuple #[v,.int .i64 b]):=by rw[h]
theorem Zwa (kind:Int) (hk:kind=2∨kind=3) (v:Value) (l:List Int) (o:Opn) (shut:Bool) (g:Int) (B:Nat) (w:World) (ho:Zax w B v l) (hB:B<=w.heap.size) (hi:∀ x ∈ l,I64 x) (h64:l.length<=64):
 Calls Tryz.prog 126 #[.int .i64 kind,v,opV o] w fun e w'=>ZfY B w v (ZbX ⟨kind,l,shut,g⟩ o).1.L (ZbX ⟨kind,l,shut,g⟩ o).2 e w':=by
 obtain⟨code,a,b⟩:=o
 have HO:=Zac ho
 have HBA:Hid (∀ X,Mv w (w.alloc X) v v):=fun X=>Mv.alloc w v X
 have HC:=Zac (fun n w=>ZgC n w)
 show Calls Tryz.prog _ #[_,_,.agg #[.int .i64 code,.int .i64 a,.int .i64 b]] w _
 by_cases c3:code=3
 ·subst c3
  obtain⟨ao,cap,rfl⟩:=ho.shape
  by_cases hf:l.length=64
  ·have HE:Hid (ZbX ⟨kind,l,shut,g⟩ ⟨3,a,b⟩=(⟨kind,l,shut,g⟩,-1)):=by
    unfold ZbX
    rw[if_pos rfl,if_pos hf]
    exact rfl
   rw[HE.out]
   have hq:((l.length:Int) == 64)=true:=beq_iff_eq.2 (by omega)
   clear hf HE ho hi h64 hk
   go_enter Tryz.func126,Tryz.ntmps126
   go_wp2
   go_ret2
   exact⟨_,rfl,HO.out.alloc _,HBA.out _⟩
  ·have HE:Hid (ZbX ⟨kind,l,shut,g⟩ ⟨3,a,b⟩=(⟨kind,l++[ZdY a],shut,g⟩,(l.length:Int)+1)):=by
    unfold ZbX
    rw[if_pos rfl,if_neg hf]
    exact rfl
   rw[HE.out]
   have hq:((l.length:Int) == 64)=false:=beq_eq_false_iff_ne.2 (by omega)
   obtain⟨L',hL'⟩:∃ L',L'=l++[ZdY a]:=⟨_,rfl⟩
   rw[<-hL']
   have HLL:=Zac hL'
   have HL:Hid ((L'.length:Int)=(l.length:Int)+1):=by rw[hL',List.length_append];exact rfl
   clear hf HE ho hi hk hL'
   go_enter Tryz.func126,Tryz.ntmps126
   go_wp2_with(first | (go_at_call 173;refine(HC.out _ _).mono ?_;rintro e w2 ⟨rfl,rfl⟩) | (at_builtin;refine Zgr _ rfl _ _ rfl B _ l rfl (HO.out.alloc _) _ _ rfl (by simp[Act.eval]) (by omega) (by simp;omega) ?_))
   intro v1 W1 ho1 hg1 ha1
   have hb1:=Mv.app hg1 (by simp) ha1
   clear hg1 ha1
   rw[<-HLL.out] at ho1
   have HO1:=Zac ho1
   obtain⟨ao1,cap1,rfl⟩:=ho1.shape
   have HB1:=Zac ((HBA.out _).trans hb1)
   clear ho1 hb1
   go_wp2
   go_ret2
   exact⟨_,Zbu HL.out,HO1.out,HB1.out⟩
 ·have e3:(code == 3)=false:=beq_eq_false_iff_ne.2 c3
  by_cases c4:code=4
  ·subst c4
   have HP:Hid (∀ X,Calls Tryz.prog 174 #[.int .i64 kind,v] (w.alloc X) fun e w'=>ZfY B (w.alloc X) v (ZbX ⟨kind,l,shut,g⟩ ⟨4,a,b⟩).1.L (ZbX ⟨kind,l,shut,g⟩ ⟨4,a,b⟩).2 e w'):=fun X=>ZxG kind hk v l shut g a b B (w.alloc X) (HO.out.alloc X) hi h64
   generalize (ZbX ⟨kind,l,shut,g⟩ ⟨4,a,b⟩).1.L=L' at *
   generalize (ZbX ⟨kind,l,shut,g⟩ ⟨4,a,b⟩).2=n at *
   clear ho hi h64 hk c3 e3
   go_enter Tryz.func126,Tryz.ntmps126
   go_wp2_with fail
   refine(HP.out _).mono ?_
   rintro e W1 ⟨v1,rfl,ho1,hb1⟩
   have HO1:=Zac ho1
   have HB1:=Zac ((HBA.out _).trans hb1)
   clear ho1 hb1
   go_wp2
   go_ret2
   exact⟨_,rfl,HO1.out,HB1.out⟩
  ·have e4:(code == 4)=false:=beq_eq_false_iff_ne.2 c4
   obtain⟨ao,cap,rfl⟩:=ho.shape
   by_cases c7:code=7
   ·have e7:(code == 7)=true:=beq_iff_eq.2 c7
    have HE:Hid (ZbX ⟨kind,l,shut,g⟩ ⟨code,a,b⟩=(⟨kind,l,shut,g⟩,(l.length:Int))):=by
     unfold ZbX
     rw[if_neg c3,if_neg c4,if_pos c7]
     exact rfl
    rw[HE.out]
    clear ho hi h64 hk c3 c4 c7 HE
    go_enter Tryz.func126,Tryz.ntmps126
    go_wp2
    go_ret2
    exact⟨_,rfl,HO.out.alloc _,HBA.out _⟩
   ·have e7:(code == 7)=false:=beq_eq_false_iff_ne.2 c7
    have HE:Hid (ZbX ⟨kind,l,shut,g⟩ ⟨code,a,b⟩=(⟨kind,l,shut,g⟩,0)):=by
     unfold ZbX
     rw[if_neg c3,if_neg c4,if_neg c7]
     exact rfl
    rw[HE.out]
    clear ho hi h64 hk c3 c4 c7 HE
    go_enter Tryz.func126,Tryz.ntmps126
    go_wp2
    go_ret2
    exact⟨_,rfl,HO.out.alloc _,HBA.out _⟩
theorem Zax.drew {w:World} {B:Nat} {v:Value} {l:List Int} (h:Zax w B v l):Zax w.drew B v l:=h
theorem ZdT (key:Int) (l:List Int):ZcK key 0 l<0↔Zdg key l=false:=by
 rw[Zgp]
 unfold Zdg
 cases ZbU key l <;> simp
theorem Zul {key:Int} {l:List Int} (h:Zdg key l=true):Zre key l=(ZbU key l).getD 0:=by
 rw[ZoJ]
 unfold Zdg at h
 cases hg:ZbU key l with
 | none=>rw[hg] at h;simp at h
 | some x=>rfl
theorem Zme {key:Int} {l:List Int} (h:Zdg key l=false):Zre key l=-1:=by
 rw[ZoJ]
 unfold Zdg at h
 cases hg:ZbU key l with
 | none=>rfl
 | some x=>rw[hg] at h;simp at h
theorem ZrN (v:Value) (l:List Int) (o:Opn) (shut:Bool) (g:Int) (B:Nat) (w:World) (ho:Zax w B v l) (hB:B<=w.heap.size) (hp:Zaq (-1099511627776) (-1) l) (hlim:l.length<=128):
 Calls Tryz.prog 127 #[v,opV o] w fun e w'=>ZfY B w v (ZbN ⟨4,l,shut,g⟩ o).1.L (ZbN ⟨4,l,shut,g⟩ o).2 e w':=by
 obtain⟨code,a,b⟩:=o
 have hi:=ZcR (by decide) (by decide) hp
 have HO:=Zac ho
 have HBA:Hid (∀ X,Mv w (w.alloc X) v v):=fun X=>Mv.alloc w v X
 have HC:=Zac (fun n w=>ZgC n w)
 have HW:=Zac (fun p q W=>Zcg p q W)
 have HS:=Zac (fun n l2 h2 a2 b2 W p1 p2=>ZfB n l2 h2 a2 b2 W p1 p2)
 have HLK:Hid (∀ W,Zax W B v l->Calls Tryz.prog 175 #[v,.int .i64 a] W fun e w'=>e=.returned (.tuple #[.int .i64 ((ZbU a l).getD 0),.bool (Zdg a l)])∧Below W.heap.size W w'):=fun W h=>Ziu v l a _ _ W (h.rd hi) hp (by omega)
 have HPT:Hid (∀ n W,Zax W B v l->B<=W.heap.size->Calls Tryz.prog 178 #[v,.int .i64 a,.int .i64 n] W fun e w'=>∃ v',e=.returned v'∧Zax w' B v' (ZaJ a n false l)∧Mv W w' v v'):=fun n W h1 h2=>Ziv v l a n _ _ B W h1 h2 hi hp (by omega)
 have HDR:Hid (∀ W,Zax W B v l->B<=W.heap.size->Calls Tryz.prog 176 #[v,.int .i64 a] W fun e w'=>∃ v',e=.returned v'∧Zax w' B v' (ZaU a l)∧Mv W w' v v'):=fun W h1 _=>ZvZ v l a _ _ B W h1 hi hp (by omega)
 obtain⟨ao,cap,rfl⟩:=ho.shape
 have HFU:Hid (∀ W,Calls Tryz.prog 177 #[.slice ao l.length cap] W fun e w'=>e=.returned (.bool (decide (l.length=128)))∧w'=W):=fun W=>Zmd ao l.length cap W
 obtain⟨L',n',hE⟩:∃ L' n',ZbN ⟨4,l,shut,g⟩ ⟨code,a,b⟩=(⟨4,L',shut,g⟩,n'):=by
  unfold ZbN
  repeat' split
  all_goals exact⟨_,_,rfl⟩
 rw[hE]
 have HE:=Zac hE
 clear hE ho hp hi
 show Calls Tryz.prog _ #[_,.agg #[.int .i64 code,.int .i64 a,.int .i64 b]] w fun e w'=>ZfY B w (.slice ao l.length cap) L' n' e w'
 by_cases hk:0<=a∧a<=255
 ·have HN:=Zac (decide_eq_true hk)
  have HK:Hid (¬ (a<0∨255<a)):=by
   show ¬ (a<0∨255<a)
   omega
  clear hk
  cases hh:Zdg a l
  ·have HHF:=Zac ((ZdT a l).2 hh)
   have HHD:=Zac (Zme hh)
   rw[hh] at HLK
   clear hh
   generalize (ZbU a l).getD 0=y at *
   go_enter Tryz.func127,Tryz.ntmps127
   go_wp2_with fail
   refine(HW.out _ _ _).mono ?_
   rintro e W1 ⟨a1,b1,rfl,hc1,hc2,hb1⟩
   have hbx:=(hb1.block w.heap.size (by simp)).trans (heap_alloc_new w _)
   have p1:=cell_of_row W1 w.heap.size 1 _ _ _ hbx
   have HX1:=Zac hbx
   have HB1:=Zac ((HBA.out _).trans (Mv.ofBelow hb1 _))
   have HO1:=Zac ((HO.out.alloc _).below hb1 zL)
   clear hb1 hbx
   go_wp2_with fail
   refine(HS.out _ _ _ _ _ _ hc1 hc2).mono ?_
   rintro e W2 ⟨rfl,rfl⟩
   rw[HN.out]
   clear hc1 hc2
   go_wp2_with fail
   refine(HLK.out _ HO1.out).mono ?_
   rintro e W2 ⟨rfl,hb2⟩
   have hbx:=(hb2.block w.heap.size (Array.getElem?_eq_some_iff.1 HX1.out).1).trans HX1.out
   have p0:=cell_of_row W2 w.heap.size 0 _ _ _ hbx
   have q1:=cell_of_row W2 w.heap.size 1 _ _ _ hbx
   have q2:=cell_of_row W2 w.heap.size 2 _ _ _ hbx
   have HB2:=Zac (HB1.out.trans (Mv.ofBelow hb2 _))
   have HO2:=Zac (HO1.out.below hb2 zL)
   have hB2:B<=W2.heap.size:=Nat.le_trans hB HB2.out.size
   clear hb2 hbx HX1 HB1 HO1 p1
   by_cases c7:code=7
   ·have HR:Hid (L'=l∧n'=-1):=by
     have h:=HE.out
     unfold ZbN at h
     rw[if_neg HK.out,if_neg (show ¬ (code≠7∧code≠6∧code≠5) by omega),if_neg (show ¬ code=6 by omega),if_neg (show ¬ code=5 by omega),HHD.out] at h
     injection h with h1 h2
     injection h1 with _ h3
     exact⟨h3.symm,h2.symm⟩
    have e7:(code == 7)=true:=beq_iff_eq.2 c7
    clear c7
    go_wp2
    go_ret2
    exact⟨_,Zbu HR.out.2.symm,by rw[HR.out.1];exact HO2.out,HB2.out⟩
   ·have e7:(code == 7)=false:=beq_eq_false_iff_ne.2 c7
    by_cases c6:code=6
    ·have HR:Hid (L'=ZaU a l∧n'=-1):=by
      have h:=HE.out
      unfold ZbN at h
      rw[if_neg HK.out,if_neg (show ¬ (code≠7∧code≠6∧code≠5) by omega),if_pos (show code=6 by omega),HHD.out] at h
      injection h with h1 h2
      injection h1 with _ h3
      exact⟨h3.symm,h2.symm⟩
     have e6:(code == 6)=true:=beq_iff_eq.2 c6
     clear c6 c7
     go_wp2_with fail
     refine(HDR.out _ HO2.out hB2).mono ?_
     rintro e W3 ⟨v3,rfl,ho3,hb3⟩
     have HB3:=Zac (HB2.out.trans hb3)
     have HO3:=Zac ho3
     clear ho3 hb3
     go_wp2
     go_ret2
     exact⟨_,Zbu HR.out.2.symm,by rw[HR.out.1];exact HO3.out,HB3.out⟩
    ·have e6:(code == 6)=false:=beq_eq_false_iff_ne.2 c6
     by_cases c5:code=5
     ·have e5:(code == 5)=true:=beq_iff_eq.2 c5
      by_cases hf:l.length=128
      ·have HR:Hid (L'=l∧n'=-2):=by
        have h:=HE.out
        unfold ZbN at h
        rw[if_neg HK.out,if_neg (show ¬ (code≠7∧code≠6∧code≠5) by omega),if_neg (show ¬ code=6 by omega),if_pos c5,if_pos ⟨HHF.out,hf⟩] at h
        injection h with h1 h2
        injection h1 with _ h3
        exact⟨h3.symm,h2.symm⟩
       have HFD:=Zac (decide_eq_true hf)
       clear c5 c6 c7 hf
       go_wp2_with fail
       refine(HFU.out _).mono ?_
       rintro e W3 ⟨rfl,rfl⟩
       rw[HFD.out]
       go_wp2
       go_ret2
       exact⟨_,Zbu HR.out.2.symm,by rw[HR.out.1];exact HO2.out,HB2.out⟩
      ·have HR:Hid (L'=ZaJ a (ZdY b) false l∧n'=-1):=by
        have h:=HE.out
        unfold ZbN at h
        rw[if_neg HK.out,if_neg (show ¬ (code≠7∧code≠6∧code≠5) by omega),if_neg (show ¬ code=6 by omega),if_pos c5,if_neg (fun h=>hf h.2),HHD.out] at h
        injection h with h1 h2
        injection h1 with _ h3
        exact⟨h3.symm,h2.symm⟩
       have HFD:=Zac (decide_eq_false hf)
       clear hf
       clear c5 c6 c7
       go_wp2_with fail
       refine(HFU.out _).mono ?_
       rintro e W3 ⟨rfl,rfl⟩
       rw[HFD.out]
       go_wp2
       go_region_with
        (first
         | (go_at_call 173;refine(HC.out _ _).mono ?_;rintro e w3 ⟨rfl,rfl⟩)
         | (go_at_call 178;refine(HPT.out _ _ HO2.out.drew hB2).mono ?_;rintro e W3 ⟨v3,rfl,ho3,hb3⟩;have HB3:=Zac (HB2.out.drew.trans hb3);have HO3:=Zac ho3;clear ho3 hb3))
       all_goals
        go_wp2
        go_ret2
        exact⟨_,Zbu HR.out.2.symm,by rw[HR.out.1];exact HO3.out,HB3.out⟩
     ·have e5:(code == 5)=false:=beq_eq_false_iff_ne.2 c5
      have HR:Hid (L'=l∧n'=0):=by
       have h:=HE.out
       unfold ZbN at h
       rw[if_neg HK.out,if_pos (show(code≠7∧code≠6∧code≠5) by omega)] at h
       injection h with h1 h2
       injection h1 with _ h3
       exact⟨h3.symm,h2.symm⟩
      clear c5 c6 c7
      go_wp2
      go_ret2
      exact⟨_,Zbu HR.out.2.symm,by rw[HR.out.1];exact HO2.out,HB2.out⟩
  ·have HHF:Hid (¬ ZcK a 0 l<0):=fun h=>by rw[(ZdT a l).1 h] at hh;cases hh
   have HHD:=Zac (Zul hh)
   rw[hh] at HLK
   clear hh
   generalize (ZbU a l).getD 0=y at *
   go_enter Tryz.func127,Tryz.ntmps127
   go_wp2_with fail
   refine(HW.out _ _ _).mono ?_
   rintro e W1 ⟨a1,b1,rfl,hc1,hc2,hb1⟩
   have hbx:=(hb1.block w.heap.size (by simp)).trans (heap_alloc_new w _)
   have p1:=cell_of_row W1 w.heap.size 1 _ _ _ hbx
   have HX1:=Zac hbx
   have HB1:=Zac ((HBA.out _).trans (Mv.ofBelow hb1 _))
   have HO1:=Zac ((HO.out.alloc _).below hb1 zL)
   clear hb1 hbx
   go_wp2_with fail
   refine(HS.out _ _ _ _ _ _ hc1 hc2).mono ?_
   rintro e W2 ⟨rfl,rfl⟩
   rw[HN.out]
   clear hc1 hc2
   go_wp2_with fail
   refine(HLK.out _ HO1.out).mono ?_
   rintro e W2 ⟨rfl,hb2⟩
   have hbx:=(hb2.block w.heap.size (Array.getElem?_eq_some_iff.1 HX1.out).1).trans HX1.out
   have p0:=cell_of_row W2 w.heap.size 0 _ _ _ hbx
   have q1:=cell_of_row W2 w.heap.size 1 _ _ _ hbx
   have q2:=cell_of_row W2 w.heap.size 2 _ _ _ hbx
   have HB2:=Zac (HB1.out.trans (Mv.ofBelow hb2 _))
   have HO2:=Zac (HO1.out.below hb2 zL)
   have hB2:B<=W2.heap.size:=Nat.le_trans hB HB2.out.size
   clear hb2 hbx HX1 HB1 HO1 p1
   by_cases c7:code=7
   ·have HR:Hid (L'=l∧n'=y):=by
     have h:=HE.out
     unfold ZbN at h
     rw[if_neg HK.out,if_neg (show ¬ (code≠7∧code≠6∧code≠5) by omega),if_neg (show ¬ code=6 by omega),if_neg (show ¬ code=5 by omega),HHD.out] at h
     injection h with h1 h2
     injection h1 with _ h3
     exact⟨h3.symm,h2.symm⟩
    have e7:(code == 7)=true:=beq_iff_eq.2 c7
    clear c7
    go_wp2
    go_ret2
    exact⟨_,Zbu HR.out.2.symm,by rw[HR.out.1];exact HO2.out,HB2.out⟩
   ·have e7:(code == 7)=false:=beq_eq_false_iff_ne.2 c7
    by_cases c6:code=6
    ·have HR:Hid (L'=ZaU a l∧n'=y):=by
      have h:=HE.out
      unfold ZbN at h
      rw[if_neg HK.out,if_neg (show ¬ (code≠7∧code≠6∧code≠5) by omega),if_pos (show code=6 by omega),HHD.out] at h
      injection h with h1 h2
      injection h1 with _ h3
      exact⟨h3.symm,h2.symm⟩
     have e6:(code == 6)=true:=beq_iff_eq.2 c6
     clear c6 c7
     go_wp2_with fail
     refine(HDR.out _ HO2.out hB2).mono ?_
     rintro e W3 ⟨v3,rfl,ho3,hb3⟩
     have HB3:=Zac (HB2.out.trans hb3)
     have HO3:=Zac ho3
     clear ho3 hb3
     go_wp2
     go_ret2
     exact⟨_,Zbu HR.out.2.symm,by rw[HR.out.1];exact HO3.out,HB3.out⟩
    ·have e6:(code == 6)=false:=beq_eq_false_iff_ne.2 c6
     by_cases c5:code=5
     ·have e5:(code == 5)=true:=beq_iff_eq.2 c5
      have HR:Hid (L'=ZaJ a (ZdY b) false l∧n'=y):=by
       have h:=HE.out
       unfold ZbN at h
       rw[if_neg HK.out,if_neg (show ¬ (code≠7∧code≠6∧code≠5) by omega),if_neg (show ¬ code=6 by omega),if_pos c5,if_neg (fun h=>absurd (show ZcK a 0 l<0 from h.1) (by have:=HHF.out;omega)),HHD.out] at h
       injection h with h1 h2
       injection h1 with _ h3
       exact⟨h3.symm,h2.symm⟩
      clear c5 c6 c7
      go_wp2
      go_region_with
       (first
        | (go_at_call 173;refine(HC.out _ _).mono ?_;rintro e w3 ⟨rfl,rfl⟩)
        | (go_at_call 178;refine(HPT.out _ _ HO2.out.drew hB2).mono ?_;rintro e W3 ⟨v3,rfl,ho3,hb3⟩;have HB3:=Zac (HB2.out.drew.trans hb3);have HO3:=Zac ho3;clear ho3 hb3))
      all_goals
       go_wp2
       go_ret2
       exact⟨_,Zbu HR.out.2.symm,by rw[HR.out.1];exact HO3.out,HB3.out⟩
     ·have e5:(code == 5)=false:=beq_eq_false_iff_ne.2 c5
      have HR:Hid (L'=l∧n'=0):=by
       have h:=HE.out
       unfold ZbN at h
       rw[if_neg HK.out,if_pos (show(code≠7∧code≠6∧code≠5) by omega)] at h
       injection h with h1 h2
       injection h1 with _ h3
       exact⟨h3.symm,h2.symm⟩
      clear c5 c6 c7
      go_wp2
      go_ret2
      exact⟨_,Zbu HR.out.2.symm,by rw[HR.out.1];exact HO2.out,HB2.out⟩
 ·have HN:=Zac (decide_eq_false hk)
  have HR:Hid (L'=l∧n'=-1):=by
   have h:=HE.out
   unfold ZbN at h
   rw[if_pos (show a<0∨255<a by omega)] at h
   injection h with h1 h2
   injection h1 with _ h3
   exact⟨h3.symm,h2.symm⟩
  clear hk
  go_enter Tryz.func127,Tryz.ntmps127
  go_wp2_with fail
  refine(HW.out _ _ _).mono ?_
  rintro e W1 ⟨a1,b1,rfl,hc1,hc2,hb1⟩
  have hbx:=(hb1.block w.heap.size (by simp)).trans (heap_alloc_new w _)
  have p1:=cell_of_row W1 w.heap.size 1 _ _ _ hbx
  have HX1:=Zac hbx
  have HB1:=Zac ((HBA.out _).trans (Mv.ofBelow hb1 _))
  have HO1:=Zac ((HO.out.alloc _).below hb1 zL)
  clear hb1 hbx
  go_wp2_with fail
  refine(HS.out _ _ _ _ _ _ hc1 hc2).mono ?_
  rintro e W2 ⟨rfl,rfl⟩
  rw[HN.out]
  clear hc1 hc2
  go_wp2
  go_ret2
  exact⟨_,Zbu HR.out.2.symm,by rw[HR.out.1];exact HO1.out,HB1.out⟩
theorem Zpt (v:Value) (l:List Int) (a b:Int) (shut:Bool) (g:Int) (B:Nat) (w:World) (ho:Zax w B v l) (hB:B<=w.heap.size) (hp:Zaq 0 (-1) l) (hlim:l.length<=128):
 Calls Tryz.prog 179 #[v,.int .i64 a,.int .i64 b] w fun e w'=>ZfY B w v (ZaS ⟨5,l,shut,g⟩ ⟨8,a,b⟩).1.L (ZaS ⟨5,l,shut,g⟩ ⟨8,a,b⟩).2 e w':=by
 have hi:=ZcR (by decide) (by decide) hp
 have HO:=Zac ho
 have HC:=Zac (fun n w=>ZgC n w)
 have HW:=Zac (fun p q W=>Zcg p q W)
 have HS:=Zac (fun n l2 h2 a2 b2 W p1 p2=>ZfB n l2 h2 a2 b2 W p1 p2)
 have HLK:Hid (∀ W,Zax W B v l->Calls Tryz.prog 175 #[v,.int .i64 a] W fun e w'=>e=.returned (.tuple #[.int .i64 (Zcy a l),.bool (Zdg a l)])∧Below W.heap.size W w'):=fun W h=>by
  rw[ZiH]
  exact Ziu v l a _ _ W (h.rd hi) hp (by omega)
 have HPT:Hid (∀ n W,Zax W B v l->B<=W.heap.size->Calls Tryz.prog 178 #[v,.int .i64 a,.int .i64 n] W fun e w'=>∃ v',e=.returned v'∧Zax w' B v' (ZaJ a n false l)∧Mv W w' v v'):=fun n W h1 h2=>Ziv v l a n _ _ B W h1 h2 hi hp (by omega)
 have hhb:=Zdp hp a
 obtain⟨ao,cap,rfl⟩:=ho.shape
 have HFU:Hid (∀ W,Calls Tryz.prog 177 #[.slice ao l.length cap] W fun e w'=>e=.returned (.bool (decide (l.length=128)))∧w'=W):=fun W=>Zmd ao l.length cap W
 obtain⟨L',n',hE⟩:∃ L' n',ZaS ⟨5,l,shut,g⟩ ⟨8,a,b⟩=(⟨5,L',shut,g⟩,n'):=by
  unfold ZaS
  rw[if_neg (by simp),if_neg (by simp)]
  repeat' split
  all_goals exact⟨_,_,rfl⟩
 rw[hE]
 have HE0:=Zac hE
 have HE:Hid ((if a<0∨255<a then((⟨5,l,shut,g⟩:St),(-1:Int)) else if b<0 then(⟨5,l,shut,g⟩,-1) else if ZcK a 0 l<0∧l.length=128 then(⟨5,l,shut,g⟩,-2) else(⟨5,ZaJ a (ZdY (Zcy a l+ZdY b)) false l,shut,g⟩,ZdY (Zcy a l+ZdY b)))=(⟨5,L',shut,g⟩,n')):=by
  refine Zac ?_
  have h:=HE0.out
  unfold ZaS at h
  rw[if_neg (by simp),if_neg (by simp)] at h
  simpa using h
 clear hE ho hp hi HE0
 show Calls Tryz.prog _ _ w fun e w'=>ZfY B w (.slice ao l.length cap) L' n' e w'
 have hcb:=Zep b
 by_cases hk:0<=a∧a<=255
 ·have HN:=Zac (decide_eq_true hk)
  have HK:Hid (¬ (a<0∨255<a)):=by
   show ¬ (a<0∨255<a)
   omega
  clear hk
  by_cases hb:b<0
  ·have HR:Hid (L'=l∧n'=-1):=by
    have h:=HE.out
    rw[if_neg HK.out,if_pos hb] at h
    injection h with h1 h2
    injection h1 with _ h3
    exact⟨h3.symm,h2.symm⟩
   go_enter Tryz.func179,Tryz.ntmps179
   go_wp2_with fail
   refine(HW.out _ _ _).mono ?_
   rintro e W1 ⟨a1,b1,rfl,hc1,hc2,hb1⟩
   have HB1:=Zac (Mv.ofBelow hb1 (.slice ao l.length cap))
   have HO1:=Zac (HO.out.below hb1 zL)
   clear hb1
   go_wp2_with fail
   refine(HS.out _ _ _ _ _ _ hc1 hc2).mono ?_
   rintro e W2 ⟨rfl,rfl⟩
   rw[HN.out]
   go_wp2
   go_ret2
   exact⟨_,Zbu HR.out.2.symm,by rw[HR.out.1];exact HO1.out,HB1.out⟩
  ·go_enter Tryz.func179,Tryz.ntmps179
   go_wp2_with fail
   refine(HW.out _ _ _).mono ?_
   rintro e W1 ⟨a1,b1,rfl,hc1,hc2,hb1⟩
   have HB1:=Zac (Mv.ofBelow hb1 (.slice ao l.length cap))
   have HO1:=Zac (HO.out.below hb1 zL)
   clear hb1
   go_wp2_with fail
   refine(HS.out _ _ _ _ _ _ hc1 hc2).mono ?_
   rintro e W2 ⟨rfl,rfl⟩
   rw[HN.out]
   clear hc1 hc2
   go_wp2_with fail
   refine(HLK.out _ HO1.out).mono ?_
   rintro e W2 ⟨rfl,hb2⟩
   have HB2:=Zac (HB1.out.trans (Mv.ofBelow hb2 _))
   have HO2:=Zac (HO1.out.below hb2 zL)
   have hB2:B<=W2.heap.size:=Nat.le_trans hB HB2.out.size
   clear hb2 HB1 HO1
   by_cases hfull:Zdg a l=false∧l.length=128
   ·have HR:Hid (L'=l∧n'=-2):=by
     have h:=HE.out
     rw[if_neg HK.out,if_neg (show ¬ b<0 by omega),if_pos ⟨(ZdT a l).2 hfull.1,hfull.2⟩] at h
     injection h with h1 h2
     injection h1 with _ h3
     exact⟨h3.symm,h2.symm⟩
    have HFD:=Zac (decide_eq_true hfull.2)
    rw[hfull.1]
    clear hfull
    go_wp2_with fail
    refine(HFU.out _).mono ?_
    rintro e W3 ⟨rfl,rfl⟩
    rw[HFD.out]
    go_wp2
    go_ret2
    exact⟨_,Zbu HR.out.2.symm,by rw[HR.out.1];exact HO2.out,HB2.out⟩
   ·have HR:Hid (L'=ZaJ a (ZdY (Zcy a l+ZdY b)) false l∧n'=ZdY (Zcy a l+ZdY b)):=by
     have h:=HE.out
     rw[if_neg HK.out,if_neg (show ¬ b<0 by omega),if_neg (fun h=>hfull ⟨(ZdT a l).1 h.1,h.2⟩)] at h
     injection h with h1 h2
     injection h1 with _ h3
     exact⟨h3.symm,h2.symm⟩
    generalize Zcy a l=y at *
    cases hh:Zdg a l
    ·have HFD:=Zac (decide_eq_false (fun h=>hfull ⟨hh,h⟩))
     clear hfull hh
     go_wp2_with fail
     refine(HFU.out _).mono ?_
     rintro e W3 ⟨rfl,rfl⟩
     rw[HFD.out]
     go_wp2_with(first | (go_at_call 173;refine(HC.out _ _).mono ?_;rintro e w3 ⟨rfl,rfl⟩) | (go_at_call 178;refine(HPT.out _ _ HO2.out hB2).mono ?_;rintro e W3 ⟨v3,rfl,ho3,hb3⟩;have HB3:=Zac (HB2.out.trans hb3);have HO3:=Zac ho3;clear ho3 hb3))
     go_ret2
     exact⟨_,Zbu HR.out.2.symm,by rw[HR.out.1];exact HO3.out,HB3.out⟩
    ·clear hfull hh
     go_wp2_with(first | (go_at_call 173;refine(HC.out _ _).mono ?_;rintro e w3 ⟨rfl,rfl⟩) | (go_at_call 178;refine(HPT.out _ _ HO2.out hB2).mono ?_;rintro e W3 ⟨v3,rfl,ho3,hb3⟩;have HB3:=Zac (HB2.out.trans hb3);have HO3:=Zac ho3;clear ho3 hb3))
     go_ret2
     exact⟨_,Zbu HR.out.2.symm,by rw[HR.out.1];exact HO3.out,HB3.out⟩
 ·have HN:=Zac (decide_eq_false hk)
  have HR:Hid (L'=l∧n'=-1):=by
   have h:=HE.out
   rw[if_pos (show a<0∨255<a by omega)] at h
   injection h with h1 h2
   injection h1 with _ h3
   exact⟨h3.symm,h2.symm⟩
  clear hk
  go_enter Tryz.func179,Tryz.ntmps179
  go_wp2_with fail
  refine(HW.out _ _ _).mono ?_
  rintro e W1 ⟨a1,b1,rfl,hc1,hc2,hb1⟩
  have HB1:=Zac (Mv.ofBelow hb1 (.slice ao l.length cap))
  have HO1:=Zac (HO.out.below hb1 zL)
  clear hb1
  go_wp2_with fail
  refine(HS.out _ _ _ _ _ _ hc1 hc2).mono ?_
  rintro e W2 ⟨rfl,rfl⟩
  rw[HN.out]
  go_wp2
  go_ret2
  exact⟨_,Zbu HR.out.2.symm,by rw[HR.out.1];exact HO1.out,HB1.out⟩
theorem Zwb (v:Value) (l:List Int) (code a b:Int) (shut:Bool) (g:Int) (B:Nat) (w:World) (ho:Zax w B v l) (hB:B<=w.heap.size) (hp:Zaq 0 (-1) l) (hlim:l.length<=128):
 Calls Tryz.prog 180 #[v,.int .i64 a,.int .i64 b] w fun e w'=>ZfY B w v (ZdH ⟨5,l,shut,g⟩ ⟨code,a,b⟩).1.L (ZdH ⟨5,l,shut,g⟩ ⟨code,a,b⟩).2 e w':=by
 have hi:=ZcR (by decide) (by decide) hp
 have HO:=Zac ho
 have HW:=Zac (fun p q W=>Zcg p q W)
 have HS:=Zac (fun n l2 h2 a2 b2 W p1 p2=>ZfB n l2 h2 a2 b2 W p1 p2)
 have HLK:Hid (∀ k W,Zax W B v l->Calls Tryz.prog 175 #[v,.int .i64 k] W fun e w'=>e=.returned (.tuple #[.int .i64 (Zcy k l),.bool (Zdg k l)])∧Below W.heap.size W w'):=fun k W h=>by
  rw[ZiH]
  exact Ziu v l k _ _ W (h.rd hi) hp (by omega)
 obtain⟨ao,cap,rfl⟩:=ho.shape
 have HFU:Hid (∀ W,Calls Tryz.prog 177 #[.slice ao l.length cap] W fun e w'=>e=.returned (.bool (decide (l.length=128)))∧w'=W):=fun W=>Zmd ao l.length cap W
 obtain⟨L',n',hE⟩:∃ L' n',ZdH ⟨5,l,shut,g⟩ ⟨code,a,b⟩=(⟨5,L',shut,g⟩,n'):=by
  unfold ZdH
  repeat' split
  all_goals exact⟨_,_,rfl⟩
 rw[hE]
 have HE:=Zac hE
 have HP:=Zac hp
 have HI:=Zac hi
 clear hE ho hp hi
 show Calls Tryz.prog _ _ w fun e w'=>ZfY B w (.slice ao l.length cap) L' n' e w'
 by_cases hk:0<=a∧a<=65535
 ·have HN:=Zac (decide_eq_true hk)
  obtain⟨hk0,hk1⟩:=hk
  by_cases hb:b<0
  ·have HR:Hid (L'=l∧n'=0):=by
    have h:=HE.out
    unfold ZdH at h
    rw[if_pos (.inr (.inr hb))] at h
    injection h with h1 h2
    injection h1 with _ h3
    exact⟨h3.symm,h2.symm⟩
   go_enter Tryz.func180,Tryz.ntmps180
   go_wp2_with fail
   refine(HW.out _ _ _).mono ?_
   rintro e W1 ⟨a1,b1,rfl,hc1,hc2,hb1⟩
   have HB1:=Zac (Mv.ofBelow hb1 (.slice ao l.length cap))
   have HO1:=Zac (HO.out.below hb1 zL)
   clear hb1
   go_wp2_with fail
   refine(HS.out _ _ _ _ _ _ hc1 hc2).mono ?_
   rintro e W2 ⟨rfl,rfl⟩
   rw[HN.out]
   go_wp2
   go_ret2
   exact⟨_,Zbu HR.out.2.symm,by rw[HR.out.1];exact HO1.out,HB1.out⟩
  ·have hb':0<=b:=by omega
   have HEQ:Hid ((if ZcK (a / 256) 0 l<0∨Zcy (a / 256) l<b then((⟨5,l,shut,g⟩:St),(0:Int)) else if a / 256=a % 256 then(⟨5,l,shut,g⟩,1) else if(ZcK (a % 256) 0 l<0∧l.length=128)∨1099511627776<Zcy (a % 256) l+b then(⟨5,l,shut,g⟩,0) else(⟨5,ZaJ (a % 256) (Zcy (a % 256) l+b) false (ZaJ (a / 256) (Zcy (a / 256) l-b) false l),shut,g⟩,1))=(⟨5,L',shut,g⟩,n')):=by
    have h:=HE.out
    unfold ZdH at h
    rw[if_neg (by simp;omega)] at h
    exact h
   clear HE hb
   have HD1:Hid (a.tdiv 256=a / 256):=Int.tdiv_eq_ediv_of_nonneg hk0
   have HD2:Hid (a.tmod 256=a % 256):=Int.tmod_eq_emod_of_nonneg hk0
   have hF0:0<=a / 256:=by omega
   have hF1:a / 256<=255:=by omega
   have hT0:0<=a % 256:=by omega
   have hT1:a % 256<=255:=by omega
   have hbF:=Zdp HP.out (a / 256)
   have hbT:=Zdp HP.out (a % 256)
   obtain⟨F,hF⟩:∃ F,F=a / 256:=⟨_,rfl⟩
   obtain⟨T,hT⟩:∃ T,T=a % 256:=⟨_,rfl⟩
   rw[<-hF] at HD1 HEQ hF0 hF1 hbF
   rw[<-hT] at HD2 HEQ hT0 hT1 hbT
   clear hF hT
   have hd1:=HD1.out
   have hd2:=HD2.out
   go_enter Tryz.func180,Tryz.ntmps180
   go_wp2_with fail
   refine(HW.out _ _ _).mono ?_
   rintro e W1 ⟨a1,b1,rfl,hc1,hc2,hb1⟩
   have HB1:=Zac (Mv.ofBelow hb1 (.slice ao l.length cap))
   have HO1:=Zac (HO.out.below hb1 zL)
   clear hb1
   go_wp2_with fail
   refine(HS.out _ _ _ _ _ _ hc1 hc2).mono ?_
   rintro e W2 ⟨rfl,rfl⟩
   rw[HN.out]
   clear hc1 hc2
   go_wp2_with fail
   refine(HLK.out _ _ HO1.out).mono ?_
   rintro e W2 ⟨rfl,hb2⟩
   have HB2:=Zac (HB1.out.trans (Mv.ofBelow hb2 _))
   have HO2:=Zac (HO1.out.below hb2 zL)
   have hB2:B<=W2.heap.size:=Nat.le_trans hB HB2.out.size
   clear hb2 HB1 HO1
   cases hh:Zdg F l
   ·have HR:Hid (L'=l∧n'=0):=by
     have h:=HEQ.out
     rw[if_pos (.inl ((ZdT F l).2 hh))] at h
     injection h with h1 h2
     injection h1 with _ h3
     exact⟨h3.symm,h2.symm⟩
    clear hh
    go_wp2
    go_ret2
    exact⟨_,Zbu HR.out.2.symm,by rw[HR.out.1];exact HO2.out,HB2.out⟩
   ·have HHF:Hid (¬ ZcK F 0 l<0):=fun h=>by rw[(ZdT F l).1 h] at hh;cases hh
    clear hh
    by_cases hlt:Zcy F l<b
    ·have HR:Hid (L'=l∧n'=0):=by
      have h:=HEQ.out
      rw[if_pos (.inr hlt)] at h
      injection h with h1 h2
      injection h1 with _ h3
      exact⟨h3.symm,h2.symm⟩
     clear HHF
     go_wp2
     go_ret2
     exact⟨_,Zbu HR.out.2.symm,by rw[HR.out.1];exact HO2.out,HB2.out⟩
    ·by_cases hFT:F=T
     ·have hq:(F == T)=true:=beq_iff_eq.2 hFT
      have HR:Hid (L'=l∧n'=1):=by
       have h:=HEQ.out
       rw[if_neg (fun h=>h.elim HHF.out hlt),if_pos hFT] at h
       injection h with h1 h2
       injection h1 with _ h3
       exact⟨h3.symm,h2.symm⟩
      clear HHF hFT
      go_wp2
      go_ret2
      exact⟨_,Zbu HR.out.2.symm,by rw[HR.out.1];exact HO2.out,HB2.out⟩
     ·have hq:(F == T)=false:=beq_eq_false_iff_ne.2 hFT
      have HNQ:=Zac hFT
      have HLT:=Zac hlt
      clear hFT
      go_wp2_with fail
      refine(HLK.out _ _ HO2.out).mono ?_
      rintro e W3 ⟨rfl,hb3⟩
      have HB3:=Zac (HB2.out.trans (Mv.ofBelow hb3 _))
      have HO3:=Zac (HO2.out.below hb3 zL)
      have hB3:B<=W3.heap.size:=Nat.le_trans hB HB3.out.size
      clear hb3 HB2 HO2 hB2
      by_cases hful:Zdg T l=false∧l.length=128
      ·have HFD:=Zac (decide_eq_true hful.2)
       have HR:Hid (L'=l∧n'=0):=by
        have h:=HEQ.out
        rw[if_neg (fun h=>by have:=HHF.out;have:=HLT.out;omega),if_neg HNQ.out,if_pos (.inl ⟨(ZdT T l).2 hful.1,hful.2⟩)] at h
        injection h with h1 h2
        injection h1 with _ h3
        exact⟨h3.symm,h2.symm⟩
       rw[hful.1]
       clear hful
       go_wp2_with fail
       refine(HFU.out _).mono ?_
       rintro e W4 ⟨rfl,rfl⟩
       rw[HFD.out]
       go_wp2
       go_ret2
       exact⟨_,Zbu HR.out.2.symm,by rw[HR.out.1];exact HO3.out,HB3.out⟩
      ·by_cases hbig:1099511627776<Zcy T l+b
       ·have HR:Hid (L'=l∧n'=0):=by
         have h:=HEQ.out
         rw[if_neg (fun h=>by have:=HHF.out;have:=HLT.out;omega),if_neg HNQ.out,if_pos (.inr hbig)] at h
         injection h with h1 h2
         injection h1 with _ h3
         exact⟨h3.symm,h2.symm⟩
        cases hh:Zdg T l
        ·have HFD:=Zac (decide_eq_false (fun h=>hful ⟨hh,h⟩))
         clear hful hh
         go_wp2_with fail
         refine(HFU.out _).mono ?_
         rintro e W4 ⟨rfl,rfl⟩
         rw[HFD.out]
         go_wp2
         go_ret2
         exact⟨_,Zbu HR.out.2.symm,by rw[HR.out.1];exact HO3.out,HB3.out⟩
        ·clear hful hh
         go_wp2
         go_ret2
         exact⟨_,Zbu HR.out.2.symm,by rw[HR.out.1];exact HO3.out,HB3.out⟩
       ·have HBIG:=Zac hbig
        have HR:Hid (L'=ZaJ T (Zcy T l+b) false (ZaJ F (Zcy F l-b) false l)∧n'=1):=by
         have h:=HEQ.out
         rw[if_neg (fun h=>by have:=HHF.out;have:=HLT.out;omega),if_neg HNQ.out,if_neg (fun h=>h.elim (fun x=>hful ⟨(ZdT T l).1 x.1,x.2⟩) (fun x=>by have:=HBIG.out;omega))] at h
         injection h with h1 h2
         injection h1 with _ h3
         exact⟨h3.symm,h2.symm⟩
        have HP1:Hid (Zaq 0 (-1) (ZaJ F (Zcy F l-b) false l)):=Zdu F _ 0 (by omega) (by omega) hF1 l (-1) HP.out (by omega)
        have HL1:Hid ((ZaJ F (Zcy F l-b) false l).length<=1000000):=by
         have:=ZhM F (Zcy F l-b) l false
         show(ZaJ F (Zcy F l-b) false l).length<=1000000
         omega
        have HPA:Hid (∀ W,Zax W B (.slice ao l.length cap) l->B<=W.heap.size->Calls Tryz.prog 178 #[.slice ao l.length cap,.int .i64 F,.int .i64 (Zcy F l-b)] W fun e w'=>∃ v',e=.returned v'∧Zax w' B v' (ZaJ F (Zcy F l-b) false l)∧Mv W w' (.slice ao l.length cap) v'):=fun W h1 h2=>Ziv _ l F _ _ _ B W h1 h2 HI.out HP.out (by omega)
        have HPB:Hid (∀ v1 W,Zax W B v1 (ZaJ F (Zcy F l-b) false l)->B<=W.heap.size->Calls Tryz.prog 178 #[v1,.int .i64 T,.int .i64 (Zcy T l+b)] W fun e w'=>∃ v',e=.returned v'∧Zax w' B v' (ZaJ T (Zcy T l+b) false (ZaJ F (Zcy F l-b) false l))∧Mv W w' v1 v'):=fun v1 W h1 h2=>Ziv v1 _ T _ _ _ B W h1 h2 (ZcR (by decide) (by decide) HP1.out) HP1.out HL1.out
        generalize ZaJ T (Zcy T l+b) false (ZaJ F (Zcy F l-b) false l)=L2 at *
        generalize ZaJ F (Zcy F l-b) false l=L1 at *
        generalize Zcy F l=y at *
        generalize Zcy T l=z at *
        clear HP1 HL1 HEQ HLK
        cases hh:Zdg T l
        ·have HFD:=Zac (decide_eq_false (fun h=>hful ⟨hh,h⟩))
         clear hful hh
         go_wp2_with fail
         refine(HFU.out _).mono ?_
         rintro e W4 ⟨rfl,rfl⟩
         rw[HFD.out]
         go_wp2_with fail
         refine(HPA.out _ HO3.out hB3).mono ?_
         rintro e W5 ⟨v5,rfl,ho5,hb5⟩
         have HB5:=Zac (HB3.out.trans hb5)
         have HO5:=Zac ho5
         have hB5:B<=W5.heap.size:=Nat.le_trans hB HB5.out.size
         clear ho5 hb5
         go_wp2_with fail
         refine(HPB.out _ _ HO5.out hB5).mono ?_
         rintro e W6 ⟨v6,rfl,ho6,hb6⟩
         have HB6:=Zac (HB5.out.trans hb6)
         have HO6:=Zac ho6
         clear ho6 hb6
         go_wp2
         go_ret2
         exact⟨_,Zbu HR.out.2.symm,by rw[HR.out.1];exact HO6.out,HB6.out⟩
        ·clear hful hh
         go_wp2_with fail
         refine(HPA.out _ HO3.out hB3).mono ?_
         rintro e W5 ⟨v5,rfl,ho5,hb5⟩
         have HB5:=Zac (HB3.out.trans hb5)
         have HO5:=Zac ho5
         have hB5:B<=W5.heap.size:=Nat.le_trans hB HB5.out.size
         clear ho5 hb5
         go_wp2_with fail
         refine(HPB.out _ _ HO5.out hB5).mono ?_
         rintro e W6 ⟨v6,rfl,ho6,hb6⟩
         have HB6:=Zac (HB5.out.trans hb6)
         have HO6:=Zac ho6
         clear ho6 hb6
         go_wp2
         go_ret2
         exact⟨_,Zbu HR.out.2.symm,by rw[HR.out.1];exact HO6.out,HB6.out⟩
 ·have HN:=Zac (decide_eq_false hk)
  have HR:Hid (L'=l∧n'=0):=by
   have h:=HE.out
   unfold ZdH at h
   rw[if_pos (show a<0∨65535<a∨b<0 by omega)] at h
   injection h with h1 h2
   injection h1 with _ h3
   exact⟨h3.symm,h2.symm⟩
  clear hk
  go_enter Tryz.func180,Tryz.ntmps180
  go_wp2_with fail
  refine(HW.out _ _ _).mono ?_
  rintro e W1 ⟨a1,b1,rfl,hc1,hc2,hb1⟩
  have HB1:=Zac (Mv.ofBelow hb1 (.slice ao l.length cap))
  have HO1:=Zac (HO.out.below hb1 zL)
  clear hb1
  go_wp2_with fail
  refine(HS.out _ _ _ _ _ _ hc1 hc2).mono ?_
  rintro e W2 ⟨rfl,rfl⟩
  rw[HN.out]
  go_wp2
  go_ret2
  exact⟨_,Zbu HR.out.2.symm,by rw[HR.out.1];exact HO1.out,HB1.out⟩
theorem Zum {least key:Int} {l:List Int} (hp:Zaq least (-1) l) (h:Zdg key l=true):0<=key∧key<=255:=by
 unfold Zdg at h
 cases hg:ZbU key l with
 | none=>rw[hg] at h;simp at h
 | some x=>
  have:=ZlI hp hg
  omega
theorem Zpu (v:Value) (l:List Int) (o:Opn) (shut:Bool) (g:Int) (B:Nat) (w:World) (ho:Zax w B v l) (hB:B<=w.heap.size) (hp:Zaq 0 (-1) l) (hlim:l.length<=128):
 Calls Tryz.prog 128 #[v,opV o] w fun e w'=>ZfY B w v (ZaS ⟨5,l,shut,g⟩ o).1.L (ZaS ⟨5,l,shut,g⟩ o).2 e w':=by
 obtain⟨code,a,b⟩:=o
 have hi:=ZcR (by decide) (by decide) hp
 have HO:=Zac ho
 have HBA:Hid (∀ X,Mv w (w.alloc X) v v):=fun X=>Mv.alloc w v X
 show Calls Tryz.prog _ #[_,.agg #[.int .i64 code,.int .i64 a,.int .i64 b]] w _
 by_cases c7:code=7
 ·subst c7
  have HLK:Hid (∀ W,Zax W B v l->Calls Tryz.prog 175 #[v,.int .i64 a] W fun e w'=>e=.returned (.tuple #[.int .i64 ((ZbU a l).getD 0),.bool (Zdg a l)])∧Below W.heap.size W w'):=fun W h=>Ziu v l a _ _ W (h.rd hi) hp (by omega)
  have HE:Hid (ZaS ⟨5,l,shut,g⟩ ⟨7,a,b⟩=(⟨5,l,shut,g⟩,Zre a l)):=by
   refine Zac ?_
   unfold ZaS
   rw[if_neg (by simp),if_neg (by simp)]
   by_cases hk:a<0∨255<a
   ·rw[if_pos hk]
    have hh:Zdg a l=false:=by
     cases h:Zdg a l
     ·rfl
     ·have:=Zum hp h
      omega
    rw[Zme hh]
   ·rw[if_neg hk,if_pos rfl]
  rw[HE.out]
  clear HE ho hp hi
  cases hh:Zdg a l
  ·have HV:=Zac (Zme hh)
   rw[HV.out]
   rw[hh] at HLK
   clear HV hh
   generalize (ZbU a l).getD 0=y at *
   go_enter Tryz.func128,Tryz.ntmps128
   go_wp2_with fail
   refine(HLK.out _ (HO.out.alloc _)).mono ?_
   rintro e W1 ⟨rfl,hb1⟩
   have HB1:=Zac ((HBA.out _).trans (Mv.ofBelow hb1 _))
   have HO1:=Zac ((HO.out.alloc _).below hb1 zL)
   clear hb1
   go_wp2
   go_ret2
   exact⟨_,rfl,HO1.out,HB1.out⟩
  ·have HV:=Zac (Zul hh)
   rw[HV.out]
   rw[hh] at HLK
   clear HV hh
   generalize (ZbU a l).getD 0=y at *
   go_enter Tryz.func128,Tryz.ntmps128
   go_wp2_with fail
   refine(HLK.out _ (HO.out.alloc _)).mono ?_
   rintro e W1 ⟨rfl,hb1⟩
   have HB1:=Zac ((HBA.out _).trans (Mv.ofBelow hb1 _))
   have HO1:=Zac ((HO.out.alloc _).below hb1 zL)
   clear hb1
   go_wp2
   go_ret2
   exact⟨_,rfl,HO1.out,HB1.out⟩
 ·have e7:(code == 7)=false:=beq_eq_false_iff_ne.2 c7
  by_cases c8:code=8
  ·subst c8
   have HP:Hid (∀ X,Calls Tryz.prog 179 #[v,.int .i64 a,.int .i64 b] (w.alloc X) fun e w'=>ZfY B (w.alloc X) v (ZaS ⟨5,l,shut,g⟩ ⟨8,a,b⟩).1.L (ZaS ⟨5,l,shut,g⟩ ⟨8,a,b⟩).2 e w'):=fun X=>Zpt v l a b shut g B (w.alloc X) (HO.out.alloc X) (by simp;omega) hp hlim
   generalize (ZaS ⟨5,l,shut,g⟩ ⟨8,a,b⟩).1.L=L' at *
   generalize (ZaS ⟨5,l,shut,g⟩ ⟨8,a,b⟩).2=n at *
   clear ho hi hp c7 e7
   go_enter Tryz.func128,Tryz.ntmps128
   go_wp2_with fail
   refine(HP.out _).mono ?_
   rintro e W1 ⟨v1,rfl,ho1,hb1⟩
   have HO1:=Zac ho1
   have HB1:=Zac ((HBA.out _).trans hb1)
   clear ho1 hb1
   go_wp2
   go_ret2
   exact⟨_,rfl,HO1.out,HB1.out⟩
  ·have e8:(code == 8)=false:=beq_eq_false_iff_ne.2 c8
   by_cases c9:code=9
   ·have HE:Hid (ZaS ⟨5,l,shut,g⟩ ⟨code,a,b⟩=ZdH ⟨5,l,shut,g⟩ ⟨code,a,b⟩):=if_pos c9
    rw[HE.out]
    have e9:(code == 9)=true:=beq_iff_eq.2 c9
    have HP:Hid (∀ X,Calls Tryz.prog 180 #[v,.int .i64 a,.int .i64 b] (w.alloc X) fun e w'=>ZfY B (w.alloc X) v (ZdH ⟨5,l,shut,g⟩ ⟨code,a,b⟩).1.L (ZdH ⟨5,l,shut,g⟩ ⟨code,a,b⟩).2 e w'):=fun X=>Zwb v l code a b shut g B (w.alloc X) (HO.out.alloc X) (by simp;omega) hp hlim
    generalize (ZdH ⟨5,l,shut,g⟩ ⟨code,a,b⟩).1.L=L' at *
    generalize (ZdH ⟨5,l,shut,g⟩ ⟨code,a,b⟩).2=n at *
    clear ho hi hp c7 c8 c9 HE
    go_enter Tryz.func128,Tryz.ntmps128
    go_wp2_with fail
    refine(HP.out _).mono ?_
    rintro e W1 ⟨v1,rfl,ho1,hb1⟩
    have HO1:=Zac ho1
    have HB1:=Zac ((HBA.out _).trans hb1)
    clear ho1 hb1
    go_wp2
    go_ret2
    exact⟨_,rfl,HO1.out,HB1.out⟩
   ·have e9:(code == 9)=false:=beq_eq_false_iff_ne.2 c9
    have HE:Hid (ZaS ⟨5,l,shut,g⟩ ⟨code,a,b⟩=(⟨5,l,shut,g⟩,0)):=by
     refine Zac ?_
     unfold ZaS
     rw[if_neg c9,if_pos ⟨c7,c8⟩]
    rw[HE.out]
    clear ho hi hp c7 c8 c9 HE
    go_enter Tryz.func128,Tryz.ntmps128
    go_wp2
    go_ret2
    exact⟨_,rfl,HO.out.alloc _,HBA.out _⟩
theorem Zwc (kind:Int) (ao:Option Addr) (n cap:Nat) (shut:Bool) (g a:Int) (w:World):
 Calls Tryz.prog 123 #[.agg #[.int .i64 kind,.slice ao n cap,.bool shut,.int .i64 g],.int .i64 a] w fun e w'=>e=.returned (.agg #[.int .i64 kind,.slice ao n cap,.bool true,.int .i64 (if 0<=a∧a<=2 then a else g)])∧Below w.heap.size w w':=by
 have HW:=Zac (fun p q W=>Zcg p q W)
 have HS:=Zac (fun n l2 h2 a2 b2 W p1 p2=>ZfB n l2 h2 a2 b2 W p1 p2)
 have HBA:Hid (∀ x y,Below w.heap.size w ((w.alloc x).alloc y)):=fun x y=>((Below.refl _ _).alloc zL x).alloc (by simp) y
 by_cases hk:0<=a∧a<=2
 ·rw[if_pos hk]
  have HN:=Zac (decide_eq_true hk)
  clear hk
  go_enter Tryz.func123,Tryz.ntmps123
  go_wp2_with fail
  refine(HW.out _ _ _).mono ?_
  rintro e W1 ⟨a1,b1,rfl,hc1,hc2,hb1⟩
  have hbx:ZoL W1 w.heap.size _ _:=(ZoL.made w _ _).below hb1 (by simp)
  have q0:=(hbx.s 0).1
  have q1:=(hbx.s 1).1
  have q2:=(hbx.s 2).1
  have q3:=(hbx.s 3).1
  have f2:=(hbx.s 2).2
  have f3:=(hbx.s 3).2
  have r0:=(hbx.r 0).1
  have r1:=(hbx.r 1).1
  have r2:=(hbx.r 2).1
  have r3:=(hbx.r 3).1
  have s0:=(hbx.r 0).2
  have s1:=(hbx.r 1).2
  have s2:=(hbx.r 2).2
  have s3:=(hbx.r 3).2
  have HB1:=Zac ((HBA.out _ _).trans (hb1.mono (HBA.out _ _).size))
  have HC1:Hid (∀ x,(W1.setCell ⟨w.heap.size,2,none⟩ x).cell? ⟨a1,0,none⟩=some (.int .i64 0)):=fun x=>(World.cell?_setCell_other _ _ _ _ (by simp)).trans hc1
  have HC2:Hid (∀ x,(W1.setCell ⟨w.heap.size,2,none⟩ x).cell? ⟨b1,0,none⟩=some (.int .i64 2)):=fun x=>(World.cell?_setCell_other _ _ _ _ (by simp)).trans hc2
  clear hb1 hbx hc1 hc2
  go_wp2_with fail
  refine(HS.out _ _ _ _ _ _ (HC1.out _) (HC2.out _)).mono ?_
  rintro e W2 ⟨rfl,rfl⟩
  rw[HN.out]
  go_wp2
  refine bodyPost_ret (v:=.agg #[.int .i64 kind,.slice ao n cap,.bool true,.int .i64 a]) (by simp[results,Tryz.results123,go_sem,r0,r1,r2,r3]) rfl ?_
  exact⟨rfl,((((((HB1.out.setCell zL _).setCell zL _).setCell (Nat.le_succ _) _).setCell (Nat.le_succ _) _).setCell (Nat.le_succ _) _).setCell (Nat.le_succ _) _)⟩
 ·rw[if_neg hk]
  have HN:=Zac (decide_eq_false hk)
  clear hk
  go_enter Tryz.func123,Tryz.ntmps123
  go_wp2_with fail
  refine(HW.out _ _ _).mono ?_
  rintro e W1 ⟨a1,b1,rfl,hc1,hc2,hb1⟩
  have hbx:ZoL W1 w.heap.size _ _:=(ZoL.made w _ _).below hb1 (by simp)
  have q0:=(hbx.s 0).1
  have q1:=(hbx.s 1).1
  have q2:=(hbx.s 2).1
  have q3:=(hbx.s 3).1
  have f2:=(hbx.s 2).2
  have f3:=(hbx.s 3).2
  have r0:=(hbx.r 0).1
  have r1:=(hbx.r 1).1
  have r2:=(hbx.r 2).1
  have r3:=(hbx.r 3).1
  have s0:=(hbx.r 0).2
  have s1:=(hbx.r 1).2
  have s2:=(hbx.r 2).2
  have s3:=(hbx.r 3).2
  have HB1:=Zac ((HBA.out _ _).trans (hb1.mono (HBA.out _ _).size))
  have HC1:Hid (∀ x,(W1.setCell ⟨w.heap.size,2,none⟩ x).cell? ⟨a1,0,none⟩=some (.int .i64 0)):=fun x=>(World.cell?_setCell_other _ _ _ _ (by simp)).trans hc1
  have HC2:Hid (∀ x,(W1.setCell ⟨w.heap.size,2,none⟩ x).cell? ⟨b1,0,none⟩=some (.int .i64 2)):=fun x=>(World.cell?_setCell_other _ _ _ _ (by simp)).trans hc2
  clear hb1 hbx hc1 hc2
  go_wp2_with fail
  refine(HS.out _ _ _ _ _ _ (HC1.out _) (HC2.out _)).mono ?_
  rintro e W2 ⟨rfl,rfl⟩
  rw[HN.out]
  go_wp2
  refine bodyPost_ret (v:=.agg #[.int .i64 kind,.slice ao n cap,.bool true,.int .i64 g]) (by simp[results,Tryz.results123,go_sem,r0,r1,r2,r3]) rfl ?_
  exact⟨rfl,(((((HB1.out.setCell zL _).setCell (Nat.le_succ _) _).setCell (Nat.le_succ _) _).setCell (Nat.le_succ _) _).setCell (Nat.le_succ _) _)⟩
theorem Zdv.mv {W W1:World} {N:Nat} {s o r:Array Value} {v v':Value} (h:Zdv W N s o r) (hv:∀ b,v.ownBlock=some b->b<N) (hm:Mv W W1 v v'):Zdv W1 N s o r:=by
 obtain⟨h1,h2,h3⟩:=h
 have lt:∀ k x,W.heap[k]?=some x->N<=k->W1.heap[k]?=some x:=fun k x hk hN=>by
  rw[hm.grown.block k (Array.getElem?_eq_some_iff.1 hk).1 (fun e=>by have:=hv k e.symm;omega)]
  exact hk
 exact⟨lt _ _ h1 (by omega),lt _ _ h2 (by omega),lt _ _ h3 (by omega)⟩
theorem Zmf {w W0 W1 F:World} {B:Nat} {v v':Value} {l L':List Int} (h0:Zax w B v l) (hb:Below w.heap.size w W0) (hs:W0.heap.size=w.heap.size+3) (hm:Mv W0 W1 v v') (ho:Zax W1 B v' L') (hF:But w.heap.size (w.heap.size+1+1) W1 F):Zax F B v' L'∧Mv w F v v':=by
 have hv:∀ b,v.ownBlock=some b->b<w.heap.size:=fun b h=>(World.ownsRow.lt h0 b h).2
 have hlies:∀ b,v'.ownBlock=some b->v.ownBlock=some b∨w.heap.size+3<=b:=fun b h=>by
  rcases hm.lies b h with h' | h'
  ·exact .inl h'
  ·exact .inr (by omega)
 have hsz:=hm.size
 refine⟨ho.but hF (fun b h=>?_),⟨⟨hF.os.trans (hm.grown.os.trans hb.os),hF.tape.trans (hm.grown.tape.trans hb.tape),hF.output.trans (hm.grown.output.trans hb.output),by have:=hF.size;omega,fun k hk hne=>?_⟩,fun b h=>?_⟩⟩
 ·rcases hlies b h with h' | h'
  ·have:=hv b h'
   omega
  ·omega
 ·rw[hF.block k (by omega) (by omega) (by omega),hm.grown.block k (by omega) hne]
  exact hb.block k hk
 ·rcases hlies b h with h' | h'
  ·exact .inl h'
  ·exact .inr (by omega)
theorem Zbm (w:World) (x y z:Obj):Below w.heap.size w (((w.alloc x).alloc y).alloc z)∧(((w.alloc x).alloc y).alloc z).heap.size=w.heap.size+3:=
 ⟨(((Below.refl _ _).alloc zL x).alloc (by simp) y).alloc (by simp;omega) z,by simp⟩
theorem Zax.alloc3 {w:World} {B:Nat} {v:Value} {l:List Int} (h:Zax w B v l) (x y z:Obj):Zax (((w.alloc x).alloc y).alloc z) B v l:=((h.alloc x).alloc y).alloc z
def Did (B:Nat) (w:World) (v:Value) (r:St × Int) (e:Ending) (w':World):Prop:=
 ∃ v',e=.returned (.tuple #[.agg #[.int .i64 r.1.kind,v',.bool r.1.shut,.int .i64 r.1.eng],.int .i64 r.2])∧Zax w' B v' r.1.L∧Mv w w' v v'
theorem Zpv (kind g:Int) (l:List Int) (v:Value) (o:Opn) (B:Nat) (w:World) (ho:Zax w B v l):
 Calls Tryz.prog 83 #[.agg #[.int .i64 kind,v,.bool true,.int .i64 g],opV o] w fun e w'=>Did B w v (⟨kind,l,true,g⟩,-1125899906842624) e w':=by
 obtain⟨code,a,b⟩:=o
 have HO:=Zac ho
 obtain⟨ao,cap,rfl⟩:=ho.shape
 have HM:Hid (∀ x y z,Mv w (((w.alloc x).alloc y).alloc z) (.slice ao l.length cap) (.slice ao l.length cap)):=fun x y z=>Mv.ofBelow (Zbm w x y z).1 _
 clear ho
 show Calls Tryz.prog _ #[_,.agg #[.int .i64 code,.int .i64 a,.int .i64 b]] w _
 go_enter Tryz.func83,Tryz.ntmps83
 go_wp2
 refine bodyPost_ret (v:=.tuple #[.agg #[.int .i64 kind,.slice ao l.length cap,.bool true,.int .i64 g],.int .i64 (-1125899906842624)]) (by simp[results,Tryz.results83,go_sem]) rfl ?_
 exact⟨_,rfl,HO.out.alloc3 _ _ _,HM.out _ _ _⟩
theorem Zpw (kind g a b:Int) (l:List Int) (v:Value) (B:Nat) (w:World) (ho:Zax w B v l):
 Calls Tryz.prog 83 #[.agg #[.int .i64 kind,v,.bool false,.int .i64 g],.agg #[.int .i64 10,.int .i64 a,.int .i64 b]] w fun e w'=>Did B w v (⟨kind,l,true,if 0<=a∧a<=2 then a else g⟩,0) e w':=by
 have HO:=Zac ho
 obtain⟨ao,cap,rfl⟩:=ho.shape
 have HSL:=Zac (fun W=>Zwc kind ao l.length cap false g a W)
 generalize (if 0<=a∧a<=2 then a else g)=t at *
 clear ho
 go_enter Tryz.func83,Tryz.ntmps83
 go_wp2_with fail
 refine(HSL.out _).mono ?_
 rintro e W1 ⟨rfl,hb1⟩
 have hbx:=(Zdv.made w _ _ _).below hb1 (by simp)
 obtain⟨r0,s0⟩:=hbx.r 0
 obtain⟨r1,s1⟩:=hbx.r 1
 obtain⟨r2,s2⟩:=hbx.r 2
 obtain⟨r3,s3⟩:=hbx.r 3
 have HFIN:=Zac (fun F hF=>Zmf (F:=F) HO.out (Zbm w _ _ _).1 (Zbm w _ _ _).2 (Mv.ofBelow hb1 _) ((HO.out.alloc3 _ _ _).below hb1 zL) hF)
 clear hb1 hbx
 go_wp2
 refine bodyPost_ret (v:=.tuple #[.agg #[.int .i64 kind,.slice ao l.length cap,.bool true,.int .i64 t],.int .i64 0]) (by simp[results,Tryz.results83,go_sem,r0,r1,r2,r3]) rfl ?_
 exact⟨_,rfl,HFIN.out _ ((But.refl _ _ _).four _ (.inr rfl) _ _ _ _)⟩
theorem ZrO (kind g:Int) (hk:kind=0∨kind=1) (l:List Int) (v:Value) (o:Opn) (hc:o.code≠10) (B:Nat) (w:World) (ho:Zax w B v l) (hl:l.length=1) (hb0:-1099511627776<=l.getD 0 0) (hb1:l.getD 0 0<=1099511627776):
 Calls Tryz.prog 83 #[.agg #[.int .i64 kind,v,.bool false,.int .i64 g],opV o] w fun e w'=>Did B w v (Zgg ⟨kind,l,false,g⟩ o) e w':=by
 have HO:=Zac ho
 have hknd:=ZlJ ⟨kind,l,false,g⟩ o
 obtain⟨L',n',hE⟩:∃ L' n',Zgg ⟨kind,l,false,g⟩ o=(⟨kind,L',false,g⟩,n'):=by
  obtain⟨h1,h2,h3⟩:=hknd
  refine⟨(Zgg ⟨kind,l,false,g⟩ o).1.L,(Zgg ⟨kind,l,false,g⟩ o).2,?_⟩
  rcases hr:Zgg ⟨kind,l,false,g⟩ o with ⟨⟨k1,l1,s1,g1⟩,n1⟩
  rw[hr] at h1 h2 h3
  simp only at h1 h2 h3
  rw[h1,h2,h3]
 have HC:Hid (∀ W,Zax W B v l->Calls Tryz.prog (if kind=0 then 124 else 125) #[v,opV o] W fun e w'=>e=.returned (.int .i64 n')∧Zax w' B v L'∧Mv W w' v v):=fun W h=>by
  rcases hk with rfl | rfl
  ·have:=Zps v l o false g B W h hl hb0 hb1
   rw[hE] at this
   exact this
  ·have:=Zny v l o false g B W h hl
   rw[hE] at this
   exact this
 rw[hE]
 obtain⟨code,a,b⟩:=o
 have e10:(code == 10)=false:=beq_eq_false_iff_ne.2 hc
 obtain⟨ao,cap,rfl⟩:=ho.shape
 have hv:∀ b,(Value.slice ao l.length cap).ownBlock=some b->b<w.heap.size:=fun b h=>(World.ownsRow.lt ho b h).2
 have HV:=Zac hv
 clear ho hE hknd hc hl hb0 hb1 hv
 show Calls Tryz.prog _ #[_,.agg #[.int .i64 code,.int .i64 a,.int .i64 b]] w _
 rcases hk with rfl | rfl
 ·rw[if_pos rfl] at HC
  go_enter Tryz.func83,Tryz.ntmps83
  go_wp2_with fail
  refine(HC.out _ (HO.out.alloc3 _ _ _)).mono ?_
  rintro e W1 ⟨rfl,ho1,hm1⟩
  have hbx:=(Zdv.made w _ _ _).mv HV.out hm1
  obtain⟨q0,-⟩:=hbx.s 0
  obtain⟨q1,-⟩:=hbx.s 1
  obtain⟨q2,-⟩:=hbx.s 2
  obtain⟨q3,-⟩:=hbx.s 3
  obtain⟨r0,s0⟩:=hbx.r 0
  obtain⟨r1,s1⟩:=hbx.r 1
  obtain⟨r2,s2⟩:=hbx.r 2
  obtain⟨r3,s3⟩:=hbx.r 3
  have HFIN:=Zac (fun F hF=>Zmf (F:=F) HO.out (Zbm w _ _ _).1 (Zbm w _ _ _).2 hm1 ho1 hF)
  clear hbx ho1 hm1
  go_wp2
  refine bodyPost_ret (v:=.tuple #[.agg #[.int .i64 0,.slice ao l.length cap,.bool false,.int .i64 g],.int .i64 n']) (by simp[results,Tryz.results83,go_sem,r0,r1,r2,r3]) rfl ?_
  exact⟨_,rfl,HFIN.out _ ((But.refl _ _ _).four _ (.inr rfl) _ _ _ _)⟩
 ·rw[if_neg (by decide)] at HC
  go_enter Tryz.func83,Tryz.ntmps83
  go_wp2_with fail
  refine(HC.out _ (HO.out.alloc3 _ _ _)).mono ?_
  rintro e W1 ⟨rfl,ho1,hm1⟩
  have hbx:=(Zdv.made w _ _ _).mv HV.out hm1
  obtain⟨q0,-⟩:=hbx.s 0
  obtain⟨q1,-⟩:=hbx.s 1
  obtain⟨q2,-⟩:=hbx.s 2
  obtain⟨q3,-⟩:=hbx.s 3
  obtain⟨r0,s0⟩:=hbx.r 0
  obtain⟨r1,s1⟩:=hbx.r 1
  obtain⟨r2,s2⟩:=hbx.r 2
  obtain⟨r3,s3⟩:=hbx.r 3
  have HFIN:=Zac (fun F hF=>Zmf (F:=F) HO.out (Zbm w _ _ _).1 (Zbm w _ _ _).2 hm1 ho1 hF)
  clear hbx ho1 hm1
  go_wp2
  refine bodyPost_ret (v:=.tuple #[.agg #[.int .i64 1,.slice ao l.length cap,.bool false,.int .i64 g],.int .i64 n']) (by simp[results,Tryz.results83,go_sem,r0,r1,r2,r3]) rfl ?_
  exact⟨_,rfl,HFIN.out _ ((But.refl _ _ _).four _ (.inr rfl) _ _ _ _)⟩
theorem ZqN {w W1:World} {B:Nat} {kind g:Int} {l L':List Int} {ao ao1:Option Addr} {cap cap1:Nat} {xs xo xr:Array Value} (h0:Zax w B (.slice ao l.length cap) l) (ho1:Zax W1 B (.slice ao1 L'.length cap1) L') (hm1:Mv (((w.alloc (.cells xs 38)).alloc (.cells xo 52)).alloc (.cells xr 38)) W1 (.slice ao l.length cap) (.slice ao1 L'.length cap1)):
 Zax (ZqD W1 w.heap.size (w.heap.size+1+1) (.slice ao1 L'.length cap1) (.int .i64 kind) (.slice ao1 L'.length cap1) (.bool false) (.int .i64 g)) B (.slice ao1 L'.length cap1) L'∧Mv w (ZqD W1 w.heap.size (w.heap.size+1+1) (.slice ao1 L'.length cap1) (.int .i64 kind) (.slice ao1 L'.length cap1) (.bool false) (.int .i64 g)) (.slice ao l.length cap) (.slice ao1 L'.length cap1):=
 Zmf h0 (Zbm w _ _ _).1 (Zbm w _ _ _).2 hm1 ho1 (((But.refl _ _ _).set _ _ (.inl rfl) _).four _ (.inr rfl) _ _ _ _)
theorem Zpx (kind g:Int) (hk:kind=2∨kind=3) (l L':List Int) (n':Int) (v:Value) (code a b:Int) (hc:code≠10) (B:Nat) (w:World) (ho:Zax w B v l)
 (HC:Hid (∀ W,Zax W B v l->B<=W.heap.size->Calls Tryz.prog 126 #[.int .i64 kind,v,.agg #[.int .i64 code,.int .i64 a,.int .i64 b]] W fun e w'=>ZfY B W v L' n' e w')) (hB:B<=w.heap.size):
 Calls Tryz.prog 83 #[.agg #[.int .i64 kind,v,.bool false,.int .i64 g],.agg #[.int .i64 code,.int .i64 a,.int .i64 b]] w fun e w'=>Did B w v (⟨kind,L',false,g⟩,n') e w':=by
 have HO:=Zac ho
 have e10:(code == 10)=false:=beq_eq_false_iff_ne.2 hc
 obtain⟨ao,cap,rfl⟩:=ho.shape
 have hv:∀ b,(Value.slice ao l.length cap).ownBlock=some b->b<w.heap.size:=fun b h=>(World.ownsRow.lt ho b h).2
 have HV:=Zac hv
 clear ho hc hv
 rcases hk with rfl | rfl
 ·go_enter Tryz.func83,Tryz.ntmps83
  go_wp2_with fail
  refine(HC.out _ (HO.out.alloc3 _ _ _) (by simp;omega)).mono ?_
  rintro e W1 ⟨v1,rfl,ho1,hm1⟩
  obtain⟨ao1,cap1,rfl⟩:=ho1.shape
  have hbx:=(Zdv.made w _ _ _).mv HV.out hm1
  obtain⟨q0,-⟩:=hbx.s 0
  obtain⟨q1,f1⟩:=hbx.s 1
  obtain⟨q2,-⟩:=hbx.s 2
  obtain⟨q3,-⟩:=hbx.s 3
  obtain⟨r0,s0⟩:=hbx.r 0
  obtain⟨r1,s1⟩:=hbx.r 1
  obtain⟨r2,s2⟩:=hbx.r 2
  obtain⟨r3,s3⟩:=hbx.r 3
  have HFIN:=Zac (fun kind=>ZqN (kind:=kind) (g:=g) HO.out ho1 hm1)
  clear hbx ho1 hm1
  go_wp2
  refine bodyPost_ret (v:=.tuple #[.agg #[.int .i64 2,.slice ao1 L'.length cap1,.bool false,.int .i64 g],.int .i64 n']) (by simp[results,Tryz.results83,go_sem,r0,r1,r2,r3]) rfl ?_
  exact⟨_,rfl,HFIN.out _⟩
 ·go_enter Tryz.func83,Tryz.ntmps83
  go_wp2_with fail
  refine(HC.out _ (HO.out.alloc3 _ _ _) (by simp;omega)).mono ?_
  rintro e W1 ⟨v1,rfl,ho1,hm1⟩
  obtain⟨ao1,cap1,rfl⟩:=ho1.shape
  have hbx:=(Zdv.made w _ _ _).mv HV.out hm1
  obtain⟨q0,-⟩:=hbx.s 0
  obtain⟨q1,f1⟩:=hbx.s 1
  obtain⟨q2,-⟩:=hbx.s 2
  obtain⟨q3,-⟩:=hbx.s 3
  obtain⟨r0,s0⟩:=hbx.r 0
  obtain⟨r1,s1⟩:=hbx.r 1
  obtain⟨r2,s2⟩:=hbx.r 2
  obtain⟨r3,s3⟩:=hbx.r 3
  have HFIN:=Zac (fun kind=>ZqN (kind:=kind) (g:=g) HO.out ho1 hm1)
  clear hbx ho1 hm1
  go_wp2
  refine bodyPost_ret (v:=.tuple #[.agg #[.int .i64 3,.slice ao1 L'.length cap1,.bool false,.int .i64 g],.int .i64 n']) (by simp[results,Tryz.results83,go_sem,r0,r1,r2,r3]) rfl ?_
  exact⟨_,rfl,HFIN.out _⟩
theorem Znz (kind g:Int) (hk:kind=4) (l L':List Int) (n':Int) (v:Value) (code a b:Int) (hc:code≠10) (B:Nat) (w:World) (ho:Zax w B v l)
 (HC:Hid (∀ W,Zax W B v l->B<=W.heap.size->Calls Tryz.prog 127 #[v,.agg #[.int .i64 code,.int .i64 a,.int .i64 b]] W fun e w'=>ZfY B W v L' n' e w')) (hB:B<=w.heap.size):
 Calls Tryz.prog 83 #[.agg #[.int .i64 kind,v,.bool false,.int .i64 g],.agg #[.int .i64 code,.int .i64 a,.int .i64 b]] w fun e w'=>Did B w v (⟨kind,L',false,g⟩,n') e w':=by
 have HO:=Zac ho
 have e10:(code == 10)=false:=beq_eq_false_iff_ne.2 hc
 obtain⟨ao,cap,rfl⟩:=ho.shape
 have hv:∀ b,(Value.slice ao l.length cap).ownBlock=some b->b<w.heap.size:=fun b h=>(World.ownsRow.lt ho b h).2
 have HV:=Zac hv
 clear ho hc hv
 subst hk
 all_goals
  go_enter Tryz.func83,Tryz.ntmps83
  go_wp2_with fail
  refine(HC.out _ (HO.out.alloc3 _ _ _) (by simp;omega)).mono ?_
  rintro e W1 ⟨v1,rfl,ho1,hm1⟩
  obtain⟨ao1,cap1,rfl⟩:=ho1.shape
  have hbx:=(Zdv.made w _ _ _).mv HV.out hm1
  obtain⟨q0,-⟩:=hbx.s 0
  obtain⟨q1,f1⟩:=hbx.s 1
  obtain⟨q2,-⟩:=hbx.s 2
  obtain⟨q3,-⟩:=hbx.s 3
  obtain⟨r0,s0⟩:=hbx.r 0
  obtain⟨r1,s1⟩:=hbx.r 1
  obtain⟨r2,s2⟩:=hbx.r 2
  obtain⟨r3,s3⟩:=hbx.r 3
  have HFIN:=Zac (fun kind=>ZqN (kind:=kind) (g:=g) HO.out ho1 hm1)
  clear hbx ho1 hm1
  go_wp2
  refine bodyPost_ret (v:=.tuple #[.agg #[.int .i64 4,.slice ao1 L'.length cap1,.bool false,.int .i64 g],.int .i64 n']) (by simp[results,Tryz.results83,go_sem,r0,r1,r2,r3]) rfl ?_
  exact⟨_,rfl,HFIN.out _⟩
theorem Zmg (kind g:Int) (hk:kind=5) (l L':List Int) (n':Int) (v:Value) (code a b:Int) (hc:code≠10) (B:Nat) (w:World) (ho:Zax w B v l)
 (HC:Hid (∀ W,Zax W B v l->B<=W.heap.size->Calls Tryz.prog 128 #[v,.agg #[.int .i64 code,.int .i64 a,.int .i64 b]] W fun e w'=>ZfY B W v L' n' e w')) (hB:B<=w.heap.size):
 Calls Tryz.prog 83 #[.agg #[.int .i64 kind,v,.bool false,.int .i64 g],.agg #[.int .i64 code,.int .i64 a,.int .i64 b]] w fun e w'=>Did B w v (⟨kind,L',false,g⟩,n') e w':=by
 have HO:=Zac ho
 have e10:(code == 10)=false:=beq_eq_false_iff_ne.2 hc
 obtain⟨ao,cap,rfl⟩:=ho.shape
 have hv:∀ b,(Value.slice ao l.length cap).ownBlock=some b->b<w.heap.size:=fun b h=>(World.ownsRow.lt ho b h).2
 have HV:=Zac hv
 clear ho hc hv
 subst hk
 all_goals
  go_enter Tryz.func83,Tryz.ntmps83
  go_wp2_with fail
  refine(HC.out _ (HO.out.alloc3 _ _ _) (by simp;omega)).mono ?_
  rintro e W1 ⟨v1,rfl,ho1,hm1⟩
  obtain⟨ao1,cap1,rfl⟩:=ho1.shape
  have hbx:=(Zdv.made w _ _ _).mv HV.out hm1
  obtain⟨q0,-⟩:=hbx.s 0
  obtain⟨q1,f1⟩:=hbx.s 1
  obtain⟨q2,-⟩:=hbx.s 2
  obtain⟨q3,-⟩:=hbx.s 3
  obtain⟨r0,s0⟩:=hbx.r 0
  obtain⟨r1,s1⟩:=hbx.r 1
  obtain⟨r2,s2⟩:=hbx.r 2
  obtain⟨r3,s3⟩:=hbx.r 3
  have HFIN:=Zac (fun kind=>ZqN (kind:=kind) (g:=g) HO.out ho1 hm1)
  clear hbx ho1 hm1
  go_wp2
  refine bodyPost_ret (v:=.tuple #[.agg #[.int .i64 5,.slice ao1 L'.length cap1,.bool false,.int .i64 g],.int .i64 n']) (by simp[results,Tryz.results83,go_sem,r0,r1,r2,r3]) rfl ?_
  exact⟨_,rfl,HFIN.out _⟩
end Go.Proofs.YtnahjngbneicaaaGreatDoor
