import Derived.Test.YtnahjngbneicaaaGreatDoorBlockTake
import Derived.Test.YtnahjngbneicaaaGreatDoorPack8
import Derived.Laws.OwnMore
namespace Go.Proofs.YtnahjngbneicaaaGreatDoor
set_option maxRecDepth 100000
open Go.RowKit
def Zko (w:World) (g:Nat) (L:List Rec):Prop:=w.heap[g]?=some (.cells (Zam L).toArray 62 (0,0))
theorem Zko.lt {w:World} {g:Nat} {L:List Rec} (h:Zko w g L):g<w.heap.size:=(Array.getElem?_eq_some_iff.1 h).1
theorem Zko.below {w w':World} {g B:Nat} {L:List Rec} (h:Zko w g L) (hb:Below B w w') (hB:w.heap.size<=B):Zko w' g L:=(hb.block g (by have:=h.lt;omega)).trans h
theorem Zko.cell {w:World} {g:Nat} {L:List Rec} (h:Zko w g L) (i:Nat):w.cell? ⟨g,i,none⟩=(Zam L)[i]?∧w.frozen? ⟨g,i,none⟩=false:=
 ⟨(cell_of_row w g i _ _ _ h).trans (by simp),frozen_of_row w g i _ _ h⟩
theorem Zko.at {w:World} {g:Nat} {L:List Rec} (h:Zko w g L) {k:Nat} (hk:k<L.length):Zky w g (k*7) (L.getD k Zai):=by
 have hc:∀ j u,j<7->(ZdG (L.getD k Zai))[j]?=some u->w.cell? ⟨g,k*7+j,none⟩=some u:=fun j u hj hu=>(h.cell _).1.trans ((ZdR L k j hk hj).trans hu)
 exact⟨hc 0 _ (by decide) rfl,hc 1 _ (by decide) rfl,hc 2 _ (by decide) rfl,hc 3 _ (by decide) rfl,hc 4 _ (by decide) rfl,hc 5 _ (by decide) rfl,hc 6 _ (by decide) rfl⟩
theorem Zib:∀ (L:List Rec) (k j:Nat) (v:Value) (r:Rec),k<L.length->j<7->(ZdG r).toList=(ZdG (L.getD k Zai)).toList.set j v->(Zam L).set (k*7+j) v=Zam (L.set k r)
 | s::t,0,j,v,r,_,hj,h=>by
  have e:((s::t).getD 0 Zai)=s:=rfl
  rw[e] at h
  rw[Zam,Nat.zero_mul,Nat.zero_add,List.set_append_left _ _ (by simp[ZdG];omega),<-h]
  rfl
 | s::t,k+1,j,v,r,hk,hj,h=>by
  have e:(k+1)*7+j=(ZdG s).toList.length+(k*7+j):=by simp[ZdG];omega
  have e2:((s::t).getD (k+1) Zai)=t.getD k Zai:=by simp[List.getD]
  rw[e2] at h
  rw[Zam,e,List.set_append_right _ _ (by omega),Nat.add_sub_cancel_left,Zib t k j v r (by simpa using hk) hj h]
  rfl
theorem Zko.set {w:World} {g:Nat} {L:List Rec} (h:Zko w g L) {k:Nat} (hk:k<L.length) (j:Nat) (hj:j<7) (v:Value) (r:Rec) (hr:(ZdG r).toList=(ZdG (L.getD k Zai)).toList.set j v):
 Zko (w.setCell ⟨g,k*7+j,none⟩ v) g (L.set k r):=by
 have:=heap_setCell_same w g (k*7+j) _ _ v h
 unfold Zko
 rw[<-Zib L k j v r hk hj hr]
 simpa using this
theorem ZcJ {L:List Rec} {k:Nat} (hk:k<L.length) (r:Rec):(L.set k r).getD k Zai=r:=by simp[List.getD,hk]
theorem Zko.seven {w:World} {g:Nat} {L:List Rec} (h:Zko w g L) {k:Nat} (hk:k<L.length) (i p s c a b y:Int):
 Zko (((((((w.setCell ⟨g,k*7,none⟩ (.int .i64 i)).setCell ⟨g,k*7+1,none⟩ (.int .i64 p)).setCell ⟨g,k*7+2,none⟩ (.int .i64 s)).setCell ⟨g,k*7+3,none⟩ (.int .i64 c)).setCell ⟨g,k*7+4,none⟩ (.int .i64 a)).setCell ⟨g,k*7+5,none⟩ (.int .i64 b)).setCell ⟨g,k*7+6,none⟩ (.int .i64 y)) g (L.set k ⟨i,p,s,⟨c,a,b⟩,y⟩):=by
 have hl:∀ r,k<(L.set k r).length:=fun r=>by simpa using hk
 generalize hR:L.getD k Zai=R
 obtain⟨i0,p0,s0,⟨c0,a0,b0⟩,y0⟩:=R
 have h0:=h.set hk 0 (by decide) (.int .i64 i) ⟨i,p0,s0,⟨c0,a0,b0⟩,y0⟩ (by rw[hR];rfl)
 have h1:=h0.set (hl _) 1 (by decide) (.int .i64 p) ⟨i,p,s0,⟨c0,a0,b0⟩,y0⟩ (by rw[ZcJ hk];rfl)
 rw[List.set_set] at h1
 have h2:=h1.set (hl _) 2 (by decide) (.int .i64 s) ⟨i,p,s,⟨c0,a0,b0⟩,y0⟩ (by rw[ZcJ hk];rfl)
 rw[List.set_set] at h2
 have h3:=h2.set (hl _) 3 (by decide) (.int .i64 c) ⟨i,p,s,⟨c,a0,b0⟩,y0⟩ (by rw[ZcJ hk];rfl)
 rw[List.set_set] at h3
 have h4:=h3.set (hl _) 4 (by decide) (.int .i64 a) ⟨i,p,s,⟨c,a,b0⟩,y0⟩ (by rw[ZcJ hk];rfl)
 rw[List.set_set] at h4
 have h5:=h4.set (hl _) 5 (by decide) (.int .i64 b) ⟨i,p,s,⟨c,a,b⟩,y0⟩ (by rw[ZcJ hk];rfl)
 rw[List.set_set] at h5
 have h6:=h5.set (hl _) 6 (by decide) (.int .i64 y) ⟨i,p,s,⟨c,a,b⟩,y⟩ (by rw[ZcJ hk];rfl)
 rw[List.set_set] at h6
 exact h6
theorem Zko.rd {w:World} {g:Nat} {L:List Rec} (h:Zko w g L) (hw:∀ r ∈ L,Zfw r) (hm:L.length<=maxLen):RdR w (.slice (some ⟨g,0,none⟩) L.length L.length) L:=
 ⟨_,_,rfl,Nat.le_refl _,hm,(fun e=>by cases e),hw,.inr ⟨g,0,rfl,fun j hj=>by rw[Nat.zero_add];exact h.at hj⟩⟩
theorem ZgS:∀ n:Nat,Zam (List.replicate n Zai)=List.replicate (n*7) (Value.int .i64 0)
 | 0=>rfl
 | n+1=>by
  have e:(n+1)*7=7+n*7:=by omega
  rw[List.replicate_succ,Zam,ZgS n,e,<-List.replicate_append_replicate]
  rfl
theorem ZmA (w:World) (n:Nat) (hn:n<=1000000):(Instr.makeSlice 29 (.int .i64 (n:Int)) (.int .i64 (n:Int))).run Tryz.prog w=.ok (.slice (some ⟨w.heap.size,0,none⟩) n n) (w.alloc (.cells (Zam (List.replicate n Zai)).toArray 62)):=by
 obtain⟨i0,hi,hz0,hz1,hz2⟩:=info_parts Zfp
 have h:=run_make (P:=Tryz.prog) w 29 62 i0 _ Tryz.underlying29 hi hz0 .i64 .i64 (n:Int) (n:Int) (by omega) (Int.le_refl _) (by rw[hz2];omega) (by omega)
 rw[Int.toNat_natCast,hz1] at h
 rw[h]
 congr 3
 apply Array.ext'
 rw[ZgS]
 apply List.ext_getElem?
 intro i
 show(madeCells #[Value.int .i64 0,.int .i64 0,.int .i64 0,.int .i64 0,.int .i64 0,.int .i64 0,.int .i64 0] (n*7)).toList[i]?=_
 by_cases hi:i<n*7
 ·have h7:i % 7<7:=Nat.mod_lt _ (by decide)
  have e:∀ j,j<7->(#[Value.int .i64 0,.int .i64 0,.int .i64 0,.int .i64 0,.int .i64 0,.int .i64 0,.int .i64 0]:Array Value)[j]! = .int .i64 0:=by
   intro j hj
   match j,hj with
   | 0,_ | 1,_ | 2,_ | 3,_ | 4,_ | 5,_ | 6,_=>rfl
  simp only [madeCells,Array.toList_map,Array.toList_range,List.getElem?_map,List.getElem?_range hi,Option.map_some,List.getElem?_replicate,if_pos hi]
  exact congrArg some (e (i % 7) h7)
 ·simp[madeCells,hi]
structure Zqc (b:List UInt8) (first count:Nat) (L:List Rec) (m:List UInt8) (t:Bool):Prop where
 chain:ZaO first L
 ok:∀ r ∈ L,Zfw r
 sound:t=true->(∀ r ∈ L,ZaF r)->b=Lib.uvarint first++(Lib.uvarint count++(Zbf [] L++m))
 none:t=false->m=[]
 whole:∀ l',ZaY l'->ZcU l'=b->l'.length=count∧L=l'.take L.length∧m=Zbf (l'.take L.length) (l'.drop L.length)∧t=true∧(l'.headD Zai).idx=first
def Zfj (first:Nat) (L:List Rec) (r:Rec) (d:Int):Rec:=⟨(first:Int)+L.length,r.proc,IntKind.i64.wrap (Zar L r.proc+d),r.op,r.resp⟩
theorem Zke (n:Int):I64 (IntKind.i64.wrap n):=by
 unfold I64
 rw[IntKind.wrap_i64]
 omega
theorem ZuW {a d:Int} (ha0:0<=a) (ha1:a<4611686018427387904) (hd:I64 d) (h0:0<=IntKind.i64.wrap (a+d)) (h1:IntKind.i64.wrap (a+d)<4611686018427387904):IntKind.i64.wrap (a+d)-a=d:=by
 obtain⟨d0,d1⟩:=hd
 rw[IntKind.wrap_i64] at *
 omega
theorem Zqc.step {b:List UInt8} {first count:Nat} {L:List Rec} {m:List UInt8} {t:Bool} (h:Zqc b first count L m t) (hf:first<4611686018427387904) (hlt:L.length<count) (hc:count<=256)
 {R:Rec} {d:Int} {m':List UInt8} {t':Bool} (hT:ZcF m=(R,d,m',t')):
 Zqc b first count (L++[Zfj first L R d]) m' t':=by
 have hok:=ZuV m
 have hno:=@ZuU m
 have hth:=@ZsE m
 have hni:m=[]->t'=false:=fun e=>by
  have:=take_nil
  rw[<-e,hT] at this
  exact this
 rw[hT] at hok hno hth
 obtain⟨hp,hd,ho,hresp,-,-,hp0⟩:=hok
 refine⟨?_,?_,?_,hno,?_⟩
 ·exact(ZhC L first (Zfj first L R d)).2 ⟨h.chain,rfl⟩
 ·intro r hr
  rcases List.mem_append.1 hr with hr | hr
  ·exact h.ok r hr
  ·simp only [List.mem_singleton] at hr
   rw[hr]
   have hidx:I64 ((first:Int)+L.length):=⟨by omega,by omega⟩
   exact⟨hidx,hp,Zke _,ho,hresp⟩
 ·intro ht hfit
  have hm:m≠[]:=fun e=>by
   rw[hni e] at ht
   cases ht
  have htt:t=true:=by
   cases t with
   | true=>rfl
   | false=>exact absurd (h.none rfl) hm
  have hL:∀ r ∈ L,ZaF r:=fun r hr=>hfit r (by simp[hr])
  have hn:ZaF (Zfj first L R d):=hfit _ (by simp)
  have hb:=h.sound htt hL
  have hmt:=hth ht
  obtain⟨s0,s1⟩:=ZkV R.proc hL
  obtain⟨_,_,_,n0,n1,_⟩:=hn
  have hdiff:(Zfj first L R d).seq-Zar L (Zfj first L R d).proc=d:=ZuW s0 s1 hd n0 n1
  have he:Zbf [] (L++[Zfj first L R d])=Zbf [] L++Zbt L (Zfj first L R d):=by
   rw[ZiZ]
   simp[Zbf]
  have h1:Zbt L (Zfj first L R d)++m'=m:=by
   unfold Zbt
   rw[hdiff]
   refine Eq.trans ?_ hmt.symm
   simp only [List.append_assoc]
   rfl
  rw[he,List.append_assoc,h1]
  exact hb
 ·intro l' hfl hbl
  obtain⟨w1,w2,w3,w4,w5⟩:=h.whole l' hfl hbl
  have hl:L.length<l'.length:=by omega
  have hfr:ZaF (l'.getD L.length Zai):=hfl.2.2.1 _ (by simp[List.getD,hl])
  have hLf:∀ r ∈ L,ZaF r:=fun r hr=>by
   rw[w2] at hr
   exact hfl.2.2.1 r (List.mem_of_mem_take hr)
  have ed:l'.drop L.length=l'.getD L.length Zai::l'.drop (L.length+1):=by
   rw[List.drop_eq_getElem_cons hl]
   simp[List.getD,hl]
  have hm:m=Zbt L (l'.getD L.length Zai)++Zbf (L++[l'.getD L.length Zai]) (l'.drop (L.length+1)):=by
   rw[w3,ed,Zbf,<-w2]
  have ht:=ZwB hLf hfr (Zbf (L++[l'.getD L.length Zai]) (l'.drop (L.length+1)))
  rw[<-hm,hT] at ht
  have hidx:=ZnX l' _ _ hfl.2.2.2 hl
  rw[w5] at hidx
  have el:(L++[Zfj first L R d]).length=L.length+1:=by simp
  rw[el,ZhB hl]
  rw[<-w2]
  generalize l'.getD L.length Zai=r at *
  simp only [Prod.mk.injEq] at ht
  obtain⟨ht1,ht2,ht3,ht4⟩:=ht
  have hnext:Zfj first L R d=r:=by
   obtain⟨_,_,_,q0,q1,_⟩:=hfr
   unfold Zfj
   rw[ht1,ht2]
   have e1:Zar L r.proc+(r.seq-Zar L r.proc)=r.seq:=by omega
   show(⟨_,r.proc,IntKind.i64.wrap (Zar L r.proc+(r.seq-Zar L r.proc)),r.op,r.resp⟩:Rec)=_
   rw[e1,ZoS ⟨by omega,by omega⟩,<-hidx]
  rw[hnext]
  exact⟨w1,rfl,ht3,ht4,w5⟩
theorem Zqc.done {b:List UInt8} {first:Nat} {L:List Rec} {m:List UInt8} {t:Bool} (h:Zqc b first L.length L m t):
 (t=true∧m=[]∧ZaY L->ZcU L=b)∧(¬ (t=true∧m=[]∧ZaY L)->∀ l',ZaY l'->ZcU l'≠b):=by
 constructor
 ·rintro⟨ht,hm,hf⟩
  have hb:=h.sound ht hf.2.2.1
  rw[hm,List.append_nil] at hb
  rw[hb]
  unfold ZcU
  have hc:=h.chain
  have h1:=hf.1
  match L,h1,hc with
  | r::u,_,hc=>
   have e:r.idx=(first:Int):=hc.1
   show Lib.uvarint r.idx.toNat++_=_
   rw[e,Int.toNat_natCast]
 ·intro hn l' hfl hbl
  obtain⟨w1,w2,w3,w4,w5⟩:=h.whole l' hfl hbl
  rw[<-w1,List.take_length] at w2
  refine hn ⟨w4,?_,by rw[w2];exact hfl⟩
  rw[w3,<-w1,List.drop_length]
  rfl
end Go.Proofs.YtnahjngbneicaaaGreatDoor
