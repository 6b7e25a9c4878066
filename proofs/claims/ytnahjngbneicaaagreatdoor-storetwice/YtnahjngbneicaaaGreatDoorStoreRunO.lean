import Derived.Test.YtnahjngbneicaaaGreatDoorStoreRunN
namespace Go.Proofs.YtnahjngbneicaaaGreatDoor
open _root_.Go.Proofs.Tryz
open List (length_append)
set_option maxRecDepth 100000
variable {x:SDk} {s:Sto} {d:Dk} {c:List Rec} {n:Nat}
theorem ZbQ:∀ (n:Nat) (l:List UInt8),l.length<=n->(Qf (Xu l)).length*64<=78*l.length+896
 | 0,l,h=>by
  have e:l=[]:=List.eq_nil_of_length_eq_zero (by omega)
  rw[e,X7];simp[Qf]
 | n+1,l,h=>by
  by_cases e:l=[]
  ·rw[e,X7]
   simp[Qf]
  ·rw[Y7 e,X4,length_append]
   have f:=Jb (d:=l.take 64) (by rw[List.length_take];omega)
   have a:l.length≠0:=fun a=>e (List.eq_nil_of_length_eq_zero a)
   have b:=ZbQ n (l.drop 64) (by rw[List.length_drop];omega)
   rw[List.length_drop] at b;rw[List.length_take] at f;by_cases g:l.length<=64
   ·have c:l.drop 64=[]:=List.drop_eq_nil_of_le g
    rw[c,X7];simp only [Qf,List.flatMap_nil,List.length_nil];omega
   ·omega
theorem ZsE (n:Qv):(Jd n).length<=6200:=by
 unfold Jd;split
 ·rename_i h
  unfold Zvo ZaV;rw[X4,length_append];have b:=ZbM h;have c:=Zep (i:=n.idx.toNat) (by have:=h.1;omega) (w:=Xt n) (by omega)
  have e:=Jb (d:=Zfe n.idx.toNat (Xt n)) (by omega)
  have a:=ZbQ _ (Xt n) zL;omega
 ·exact Nat.zero_le _
theorem Zvh (x:SDk):Kp x.2 (Z4 x).1.2∧(Z4 x).1.1.cur=x.1.cur∧(Z4 x).1.1.synced=x.1.synced:=by
 unfold Z4;split
 ·exact⟨ZuX (by decide),rfl,rfl⟩
 ·exact⟨Kp.refl _,rfl,rfl⟩
theorem Zpz (b:OkD x.2) (h:(Z4 x).2=0):look (Q6 (Z4 x).1.2) 1=none:=by
 unfold Z4 at h ⊢;split
 ·rename_i a
  rw[if_pos a] at h;have c:(Qp x.2 1).2=0:=h;show look (Q6 (Qp x.2 1).1) 1=none;rw[ZiL b c,if_pos rfl]
 ·rename_i a
  show look (Q6 x.2) 1=none
  cases hl:look (Q6 x.2) 1 with
  | none=>rfl
  | some f=>exact absurd ((Jy b 1).2 ⟨f,hl⟩) a
theorem ZsF (x:SDk):Kp x.2 (ZaX x).1.2∧(ZaX x).1.1.cur=x.1.cur∧(ZaX x).1.1.synced=x.1.synced:=by
 have h:=ZeU (d:=x.2) 3;exact⟨ZuY (by decide) (by omega),rfl,rfl⟩
theorem ZpA (x:SDk):Kp x.2 (X0 (fun d=>Jf d 1) x).1.2∧(X0 (fun d=>Jf d 1) x).1.1.cur=x.1.cur∧(X0 (fun d=>Jf d 1) x).1.1.synced=x.1.synced:=⟨ZuW _ _,rfl,rfl⟩
theorem X5.kp {y:SDk} (h:X5 (s,d) c n) (b:Kp d y.2∧y.1.cur=s.cur∧y.1.synced=s.synced) (a:y.1.now=s.now∧y.1.bases=s.bases∧y.1.log=s.log):X5 y c n:=
 X5.head (s':=y.1) (d':=y.2) h b.1 a.2.2 a.2.1 a.1 (.inl b.2.2) (.inl b.2.1)
theorem X5.write {b:List Rec} (h:X5 (s,d) b n) (g:look (Q6 d) 1=none):X5 (Zeo (s,d)).1 b (n+1):=by
 have k:=ZsE s.now;have c:OkD d:=h.okd;show X5 (s,(Xe d 1 (Jd s.now)).1) b (n+1);have a:=h.more;refine⟨a.ok,a.len,a.recs,a.bs0,a.bsn,a.bas,a.pcn,a.rcn,a.nam,a.two,a.curL,fun i p j=>?_,c.append _ _,(ZnE h.sz g (by omega)).more zL (by omega)⟩
 have e:p.name ∈ Ql d:=h.on (Zvg i) p j;by_cases f:(Xe d 1 (Jd s.now)).2=0
 ·exact(Zgj c f p.name).2 (.inr e)
 ·show p.name ∈ Ql (Xe d 1 (Jd s.now)).1
  rw[Zkk f];exact e
theorem X5.made {a:List Rec} (h:X5 x a n):X5 (ZdF x).1 a (n+1):=by
 unfold ZdF;have b:=h.sync;rw[Q3];split
 case isFalse=>exact b.more
 generalize (Zf x).1=c at b;clear h;rw[Q3];split
 case isFalse=>exact b.more
 have q:(ZkA c).1=c:=rfl;rw[q,Q3]
 have e:X5 (Z4 c).1 a n:=by
  obtain⟨s,d⟩:=c;exact b.kp (Zvh (s,d)) (Zkf (s,d))
 split
 case isFalse=>exact e.more
 rename_i u
 have m:=Zpz b.okd u;generalize (Z4 c).1=i at e m;clear b q;rw[Q3]
 have f:X5 (Zeo i).1 a (n+1):=by
  obtain⟨s,d⟩:=i;exact e.write m
 split
 case isFalse=>exact f
 generalize (Zeo i).1=l at f;clear e m;rw[Q3]
 have g:X5 (X0 (fun d=>Jf d 1) l).1 a (n+1):=by
  obtain⟨s,d⟩:=l;exact f.kp (ZpA (s,d)) ⟨rfl,rfl,rfl⟩
 split
 case isFalse=>exact g
 generalize (X0 (fun d=>Jf d 1) l).1=k at g
 clear f;rw[Q3]
 have j:X5 (ZaX k).1 a (n+1):=by
  obtain⟨s,d⟩:=k;exact g.kp (ZsF (s,d)) ⟨rfl,rfl,rfl⟩
 split
 case isFalse=>exact j
 generalize (ZaX k).1=p at j;clear g;rw[Q3]
 have t:X5 (Qt p).1 a (n+1):=by
  obtain⟨s,d⟩:=p;exact j.kp (ZiO (s,d)) (Zgg (s,d))
 split
 ·exact t
 ·exact t
theorem Zvi (l:List Qv) (x:Qv):(l++[x]).getD ((l++[x]).length-1) Xr=x:=by
 have e:(l++[x]).length-1=l.length:=by simp
 rw[e];simp[List.getD]
theorem X5.checkpoint (h:X5 x c n):X5 (Yp x).1 c (n+1):=by
 have a:=h.made;have g:=(ZiC x).2.1;unfold Yp;split
 case isFalse=>exact a
 have e:(ZdF x).1.1.bases.length<=n+1:=by rw[g];exact h.bsn
 generalize (ZdF x).1=y at a e;obtain⟨s,d⟩:=y;have b:OkS s:=a.ok;have i:({ s with bases:=s.bases++[s.now] }:Sto).base=s.now:=Zvi s.bases s.now
 have f:s.log.first<=s.next:=by unfold Sto.next Lgb.next;omega
 refine⟨⟨b.log,b.nx,b.now,b.cur,b.sy,b.cu⟩,a.len,a.recs,by show(s.bases++[s.now]).length≠0;simp,by show(s.bases++[s.now]).length<=_;rw[length_append];have j:s.bases.length<=n+1:=e;simp;omega,?_,a.pcn,a.rcn,a.nam,a.two,a.curL,a.on,a.okd,a.sz⟩
 show s.log.first<=({ s with bases:=s.bases++[s.now] }:Sto).base.idx∧({ s with bases:=s.bases++[s.now] }:Sto).base.idx<=s.next
 rw[i,b.nx];exact⟨f,Int.le_refl _⟩
end Go.Proofs.YtnahjngbneicaaaGreatDoor
