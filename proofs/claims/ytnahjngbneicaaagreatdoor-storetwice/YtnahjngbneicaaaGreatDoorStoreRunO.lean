import Derived.Test.YtnahjngbneicaaaGreatDoorStoreRunN
namespace Go.Proofs.YtnahjngbneicaaaGreatDoor
open _root_.Go.Proofs.Tryz
open List (length_append)
set_option maxRecDepth 100000
variable {x:SDk} {s:Sto} {d:Dk} {n:Nat}
theorem Zfe:∀ (n:Nat) (l:List UInt8),l.length<=n->(Zaf (Zbd l)).length*64<=78*l.length+896
 | 0,l,h=>by
  have e:l=[]:=List.eq_nil_of_length_eq_zero (by omega)
  rw[e,Zba];simp[Zaf]
 | n+1,l,h=>by
  by_cases e:l=[]
  ·rw[e,Zba]
   simp[Zaf]
  ·rw[Zbx e,ZaV,length_append]
   have c:=Zcc (d:=l.take 64) (by rw[List.length_take];omega)
   have a:l.length≠0:=fun a=>e (List.eq_nil_of_length_eq_zero a)
   have g:=Zfe n (l.drop 64) (by rw[List.length_drop];omega)
   rw[List.length_drop] at g;rw[List.length_take] at c;by_cases f:l.length<=64
   ·have b:l.drop 64=[]:=List.drop_eq_nil_of_le f
    rw[b,Zba];simp only [Zaf,List.flatMap_nil,List.length_nil];omega
   ·omega
theorem ZvU (n:ZaW):(Zda n).length<=6200:=by
 unfold Zda;split
 ·rename_i h
  unfold ZyE Zee;rw[ZaV,length_append];have e:=Zfa h;have b:=ZhF (i:=n.idx.toNat) (by have:=h.1;omega) (w:=Zbc n) (by omega)
  have a:=Zcc (d:=Ziu n.idx.toNat (Zbc n)) (by omega)
  have c:=Zfe _ (Zbc n) zL;omega
 ·exact Nat.zero_le _
theorem Zyx (x:SDk):Kp x.2 (ZcG x).1.2∧(ZcG x).1.1.cur=x.1.cur∧(ZcG x).1.1.synced=x.1.synced:=by
 unfold ZcG;split
 ·exact⟨Zyn (by decide),rfl,rfl⟩
 ·exact⟨Kp.refl _,rfl,rfl⟩
theorem ZsP (b:OkD x.2) (h:(ZcG x).2=0):look (Zbk (ZcG x).1.2) 1=none:=by
 unfold ZcG at h ⊢;split
 ·rename_i a
  rw[if_pos a] at h;have c:(Zam x.2 1).2=0:=h;show look (Zbk (Zam x.2 1).1) 1=none;rw[Zmb b c,if_pos rfl]
 ·rename_i a
  show look (Zbk x.2) 1=none
  cases hl:look (Zbk x.2) 1 with
  | none=>rfl
  | some f=>exact absurd ((ZcK b 1).2 ⟨f,hl⟩) a
theorem ZvV (x:SDk):Kp x.2 (Zeg x).1.2∧(Zeg x).1.1.cur=x.1.cur∧(Zeg x).1.1.synced=x.1.synced:=by
 have h:=Zik (d:=x.2) 3;exact⟨Zyo (by decide) (by omega),rfl,rfl⟩
theorem ZsQ (x:SDk):Kp x.2 (Zbv (fun d=>Zdx d 1) x).1.2∧(Zbv (fun d=>Zdx d 1) x).1.1.cur=x.1.cur∧(Zbv (fun d=>Zdx d 1) x).1.1.synced=x.1.synced:=⟨Zym _ _,rfl,rfl⟩
theorem ZcB.kp {y:SDk} {c:List Rec} (h:ZcB (s,d) c n) (b:Kp d y.2∧y.1.cur=s.cur∧y.1.synced=s.synced) (a:y.1.now=s.now∧y.1.bases=s.bases∧y.1.log=s.log):ZcB y c n:=
 ZcB.head (s':=y.1) (d':=y.2) h b.1 a.2.2 a.2.1 a.1 (.inl b.2.2) (.inl b.2.1)
theorem ZcB.write {b:List Rec} (h:ZcB (s,d) b n) (g:look (Zbk d) 1=none):ZcB (ZhE (s,d)).1 b (n+1):=by
 have k:=ZvU s.now;have c:OkD d:=h.okd;show ZcB (s,(ZaK d 1 (Zda s.now)).1) b (n+1);have a:=h.more;refine⟨a.ok,a.len,a.recs,a.bs0,a.bsn,a.bas,a.pcn,a.rcn,a.nam,a.two,a.curL,fun i p j=>?_,c.append _ _,(ZqU h.sz g (by omega)).more zL (by omega)⟩
 have f:p.name ∈ Zak d:=h.on (Zyw i) p j;by_cases e:(ZaK d 1 (Zda s.now)).2=0
 ·exact(Zjz c e p.name).2 (.inr f)
 ·show p.name ∈ Zak (ZaK d 1 (Zda s.now)).1
  rw[ZnA e];exact f
theorem ZcB.made {a:List Rec} (h:ZcB x a n):ZcB (ZgV x).1 a (n+1):=by
 unfold ZgV;have b:=h.sync;rw[Zbj];split
 case isFalse=>exact b.more
 generalize (ZcE x).1=c at b;clear h;rw[Zbj];split
 case isFalse=>exact b.more
 have q:(ZnQ c).1=c:=rfl;rw[q,Zbj]
 have g:ZcB (ZcG c).1 a n:=by
  obtain⟨s,d⟩:=c;exact b.kp (Zyx (s,d)) (Znv (s,d))
 split
 case isFalse=>exact g.more
 rename_i u
 have k:=ZsP b.okd u;generalize (ZcG c).1=j at g k;clear b q;rw[Zbj]
 have f:ZcB (ZhE j).1 a (n+1):=by
  obtain⟨s,d⟩:=j;exact g.write k
 split
 case isFalse=>exact f
 generalize (ZhE j).1=l at f;clear g k;rw[Zbj]
 have e:ZcB (Zbv (fun d=>Zdx d 1) l).1 a (n+1):=by
  obtain⟨s,d⟩:=l;exact f.kp (ZsQ (s,d)) ⟨rfl,rfl,rfl⟩
 split
 case isFalse=>exact e
 generalize (Zbv (fun d=>Zdx d 1) l).1=i at e
 clear f;rw[Zbj]
 have m:ZcB (Zeg i).1 a (n+1):=by
  obtain⟨s,d⟩:=i;exact e.kp (ZvV (s,d)) ⟨rfl,rfl,rfl⟩
 split
 case isFalse=>exact m
 generalize (Zeg i).1=t at m;clear e;rw[Zbj]
 have p:ZcB (Zar t).1 a (n+1):=by
  obtain⟨s,d⟩:=t;exact m.kp (Zme (s,d)) (Zjw (s,d))
 split
 ·exact p
 ·exact p
theorem Zyy (l:List ZaW) (x:ZaW):(l++[x]).getD ((l++[x]).length-1) Zbl=x:=by
 have e:(l++[x]).length-1=l.length:=by simp
 rw[e];simp[List.getD]
theorem ZcB.checkpoint {e:List Rec} (h:ZcB x e n):ZcB (Zbn x).1 e (n+1):=by
 have a:=h.made;have g:=(ZlS x).2.1;unfold Zbn;split
 case isFalse=>exact a
 have c:(ZgV x).1.1.bases.length<=n+1:=by rw[g];exact h.bsn
 generalize (ZgV x).1=y at a c;obtain⟨s,d⟩:=y;have b:OkS s:=a.ok;have f:({ s with bases:=s.bases++[s.now] }:Sto).base=s.now:=Zyy s.bases s.now
 have i:s.log.first<=s.next:=by unfold Sto.next Lgb.next;omega
 refine⟨⟨b.log,b.nx,b.now,b.cur,b.sy,b.cu⟩,a.len,a.recs,by show(s.bases++[s.now]).length≠0;simp,by show(s.bases++[s.now]).length<=_;rw[length_append];have j:s.bases.length<=n+1:=c;simp;omega,?_,a.pcn,a.rcn,a.nam,a.two,a.curL,a.on,a.okd,a.sz⟩
 show s.log.first<=({ s with bases:=s.bases++[s.now] }:Sto).base.idx∧({ s with bases:=s.bases++[s.now] }:Sto).base.idx<=s.next
 rw[f,b.nx];exact⟨i,Int.le_refl _⟩
end Go.Proofs.YtnahjngbneicaaaGreatDoor
