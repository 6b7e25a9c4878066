import Derived.Test.YtnahjngbneicaaaGreatDoorStoreRunN
namespace Go.Proofs.YtnahjngbneicaaaGreatDoor
open _root_.Go.Proofs.Tryz
open List (length_append)
set_option maxRecDepth 100000
theorem Zfe:∀ (n:Nat) (l:List UInt8),l.length<=n->(Zaf (Zbd l)).length*64<=78*l.length+896
 | 0,l,h=>by
  have e:l=[]:=List.eq_nil_of_length_eq_zero (by omega)
  rw[e,Zba];simp[Zaf]
 | n+1,l,h=>by
  by_cases e:l=[]
  ·rw[e,Zba]
   simp[Zaf]
  ·rw[Zbx e,ZaV,length_append]
   have f:=Zcc (d:=l.take 64) (by rw[List.length_take];omega)
   have a:l.length≠0:=fun a=>e (List.eq_nil_of_length_eq_zero a)
   have b:=Zfe n (l.drop 64) (by rw[List.length_drop];omega)
   rw[List.length_drop] at b;rw[List.length_take] at f;by_cases c:l.length<=64
   ·have g:l.drop 64=[]:=List.drop_eq_nil_of_le c
    rw[g,Zba];simp only [Zaf,List.flatMap_nil,List.length_nil];omega
   ·omega
theorem ZvU (n:ZaW):(Zda n).length<=6200:=by
 unfold Zda;split
 ·rename_i h
  unfold ZyE Zee;rw[ZaV,length_append];have c:=Zfa h;have a:=ZhF (i:=n.idx.toNat) (by have:=h.1;omega) (w:=Zbc n) (by omega)
  have b:=Zcc (d:=Ziu n.idx.toNat (Zbc n)) (by omega)
  have e:=Zfe _ (Zbc n) zL;omega
 ·exact Nat.zero_le _
theorem Zyx (x:SDk):Kp x.2 (ZcG x).1.2∧(ZcG x).1.1.cur=x.1.cur∧(ZcG x).1.1.synced=x.1.synced:=by
 unfold ZcG;split
 ·exact⟨Zyn (by decide),rfl,rfl⟩
 ·exact⟨Kp.refl _,rfl,rfl⟩
theorem ZsP {x:SDk} (b:OkD x.2) (h:(ZcG x).2=0):look (Zbk (ZcG x).1.2) 1=none:=by
 unfold ZcG at h ⊢;split
 ·rename_i a
  rw[if_pos a] at h;have c:(Zam x.2 1).2=0:=h;show look (Zbk (Zam x.2 1).1) 1=none;rw[Zmb b c,if_pos rfl]
 ·rename_i a
  show look (Zbk x.2) 1=none
  cases hl:look (Zbk x.2) 1 with
  | none=>rfl
  | some f=>exact absurd ((ZcK b 1).2 ⟨f,hl⟩) a
theorem ZvV (x:SDk):Kp x.2 (Zeg x).1.2∧(Zeg x).1.1.cur=x.1.cur∧(Zeg x).1.1.synced=x.1.synced:=by
 have h:=Zik (d:=x.2) 3;exact⟨Zyo (by decide) (by omega),rfl,rfl⟩
theorem ZsQ (x:SDk):Kp x.2 (Zbv (fun d=>Zdx d 1) x).1.2∧(Zbv (fun d=>Zdx d 1) x).1.1.cur=x.1.cur∧(Zbv (fun d=>Zdx d 1) x).1.1.synced=x.1.synced:=⟨Zym _ _,rfl,rfl⟩
theorem ZcB.kp {s:Sto} {d:Dk} {y:SDk} {c:List Rec} {n:Nat} (h:ZcB (s,d) c n) (a:Kp d y.2∧y.1.cur=s.cur∧y.1.synced=s.synced) (b:y.1.now=s.now∧y.1.bases=s.bases∧y.1.log=s.log):ZcB y c n:=
 ZcB.head (s':=y.1) (d':=y.2) h a.1 b.2.2 b.2.1 b.1 (.inl a.2.2) (.inl a.2.1)
theorem ZcB.write {s:Sto} {d:Dk} {b:List Rec} {n:Nat} (h:ZcB (s,d) b n) (j:look (Zbk d) 1=none):ZcB (ZhE (s,d)).1 b (n+1):=by
 have k:=ZvU s.now;have c:OkD d:=h.okd;show ZcB (s,(ZaK d 1 (Zda s.now)).1) b (n+1);have a:=h.more;refine⟨a.ok,a.len,a.recs,a.bs0,a.bsn,a.bas,a.pcn,a.rcn,a.nam,a.two,a.curL,fun g p i=>?_,c.append _ _,(ZqU h.sz j (by omega)).more zL (by omega)⟩
 have e:p.name ∈ Zak d:=h.on (Zyw g) p i;by_cases f:(ZaK d 1 (Zda s.now)).2=0
 ·exact(Zjz c f p.name).2 (.inr e)
 ·show p.name ∈ Zak (ZaK d 1 (Zda s.now)).1
  rw[ZnA f];exact e
theorem ZcB.made {x:SDk} {a:List Rec} {n:Nat} (h:ZcB x a n):ZcB (ZgV x).1 a (n+1):=by
 unfold ZgV;have b:=h.sync;rw[Zbj];split
 case isFalse=>exact b.more
 generalize (ZcE x).1=y1 at b;clear h;rw[Zbj];split
 case isFalse=>exact b.more
 have j:(ZnQ y1).1=y1:=rfl;rw[j,Zbj]
 have c:ZcB (ZcG y1).1 a n:=by
  obtain⟨s,d⟩:=y1;exact b.kp (Zyx (s,d)) (Znv (s,d))
 split
 case isFalse=>exact c.more
 rename_i l
 have i:=ZsP b.okd l;generalize (ZcG y1).1=y2 at c i;clear b j;rw[Zbj]
 have e:ZcB (ZhE y2).1 a (n+1):=by
  obtain⟨s,d⟩:=y2;exact c.write i
 split
 case isFalse=>exact e
 generalize (ZhE y2).1=y3 at e;clear c i;rw[Zbj]
 have f:ZcB (Zbv (fun d=>Zdx d 1) y3).1 a (n+1):=by
  obtain⟨s,d⟩:=y3;exact e.kp (ZsQ (s,d)) ⟨rfl,rfl,rfl⟩
 split
 case isFalse=>exact f
 generalize (Zbv (fun d=>Zdx d 1) y3).1=y4 at f
 clear e;rw[Zbj]
 have g:ZcB (Zeg y4).1 a (n+1):=by
  obtain⟨s,d⟩:=y4;exact f.kp (ZvV (s,d)) ⟨rfl,rfl,rfl⟩
 split
 case isFalse=>exact g
 generalize (Zeg y4).1=y5 at g;clear f;rw[Zbj]
 have k:ZcB (Zar y5).1 a (n+1):=by
  obtain⟨s,d⟩:=y5;exact g.kp (Zme (s,d)) (Zjw (s,d))
 split
 ·exact k
 ·exact k
theorem Zyy (l:List ZaW) (x:ZaW):(l++[x]).getD ((l++[x]).length-1) Zbl=x:=by
 have e:(l++[x]).length-1=l.length:=by simp
 rw[e];simp[List.getD]
theorem ZcB.checkpoint {x:SDk} {c:List Rec} {n:Nat} (h:ZcB x c n):ZcB (Zbn x).1 c (n+1):=by
 have a:=h.made;have g:=(ZlS x).2.1;unfold Zbn;split
 case isFalse=>exact a
 have e:(ZgV x).1.1.bases.length<=n+1:=by rw[g];exact h.bsn
 generalize (ZgV x).1=y at a e;obtain⟨s,d⟩:=y;have b:OkS s:=a.ok;have f:({ s with bases:=s.bases++[s.now] }:Sto).base=s.now:=Zyy s.bases s.now
 have i:s.log.first<=s.next:=by unfold Sto.next Lgb.next;omega
 refine⟨⟨b.log,b.nx,b.now,b.cur,b.sy,b.cu⟩,a.len,a.recs,by show(s.bases++[s.now]).length≠0;simp,by show(s.bases++[s.now]).length<=_;rw[length_append];have j:s.bases.length<=n+1:=e;simp;omega,?_,a.pcn,a.rcn,a.nam,a.two,a.curL,a.on,a.okd,a.sz⟩
 show s.log.first<=({ s with bases:=s.bases++[s.now] }:Sto).base.idx∧({ s with bases:=s.bases++[s.now] }:Sto).base.idx<=s.next
 rw[f,b.nx];exact⟨i,Int.le_refl _⟩
end Go.Proofs.YtnahjngbneicaaaGreatDoor
