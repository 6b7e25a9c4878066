import Derived.Test.YtnahjngbneicaaaGreatDoorStoreRunN
namespace Go.Proofs.YtnahjngbneicaaaGreatDoor
set_option linter.unusedSimpArgs false
open _root_.Go.Proofs.Tryz
open List (length_append)
set_option maxRecDepth 100000
variable {x:SDk} {s:Sto} {d:Dk} {all:List Rec} {n:Nat}
theorem ZbS:∀ (n:Nat) (l:List UInt8),l.length<=n->(Qf (Yd l)).length*64<=78*l.length+896
 | 0,l,h=>by
  have e:l=[]:=zao (by omega)
  rw[e,Yp];simp[Qf]
 | n+1,l,h=>by
  by_cases e:l=[]
  ·rw[e,Yp]
   simp[Qf]
  ·rw[Z5 e,Q9,length_append]
   have g:=Ga (d:=l.take 64) (by rw[zb5];omega)
   have a:l.length≠0:=fun a=>e (zao a)
   have c:=ZbS n (l.drop 64) (by rw[zci];omega)
   rw[zci] at c;rw[zb5] at g;by_cases f:l.length<=64
   ·have b:l.drop 64=[]:=zea f
    rw[b,Yp];simp only [Qf,List.flatMap_nil,zc0];omega
   ·omega
theorem ZtT (n:Q0):(Ge n).length<=6200:=by
 unfold Ge;split
 ·rename_i h
  unfold ZjN ZaJ;rw[Q9,length_append];have e:=Zaz h;have c:=ZeI (i:=n.idx.toNat) (by have:=h.1;omega) (w:=Xt n) (by omega)
  have b:=Ga (d:=Zbl n.idx.toNat (Xt n)) (by omega)
  have a:=ZbS _ (Xt n) zL;omega
 ·exact zap _
theorem ZwA (x:SDk):Kp x.2 (Yy x).1.2∧(Yy x).1.1.cur=x.1.cur∧(Yy x).1.1.synced=x.1.synced:=by
 unfold Yy;split
 ·exact⟨Zwr (by decide),rfl,rfl⟩
 ·exact⟨Kp.refl _,rfl,rfl⟩
theorem ZqE (b:OkD x.2) (h:(Yy x).2=0):look (Qm (Yy x).1.2) 1=none:=by
 unfold Yy at h ⊢;split
 ·rename_i a
  rw[zab a] at h;have c:(Qi x.2 1).2=0:=h;show look (Qm (Qi x.2 1).1) 1=none;rw[Zjv b c,zab rfl]
 ·rename_i a
  show look (Qm x.2) 1=none
  cases hl:look (Qm x.2) 1 with
  | none=>rfl
  | some f=>exact absurd ((Y6 b 1).2 ⟨f,hl⟩) a
theorem ZtU (x:SDk):Kp x.2 (Gx x).1.2∧(Gx x).1.1.cur=x.1.cur∧(Gx x).1.1.synced=x.1.synced:=by
 have h:=Zan (d:=x.2) 3;exact⟨Zws (by decide) (by omega),rfl,rfl⟩
theorem ZqF (x:SDk):Kp x.2 (Xo (fun d=>Xz d 1) x).1.2∧(Xo (fun d=>Xz d 1) x).1.1.cur=x.1.cur∧(Xo (fun d=>Xz d 1) x).1.1.synced=x.1.synced:=⟨Zwq _ _,rfl,rfl⟩
theorem X0.kp {y:SDk} (h:X0 (s,d) all n) (a:Kp d y.2∧y.1.cur=s.cur∧y.1.synced=s.synced) (b:y.1.now=s.now∧y.1.bases=s.bases∧y.1.log=s.log):X0 y all n:=
 X0.head (s':=y.1) (d':=y.2) h a.1 b.2.2 b.2.1 b.1 (.inl a.2.2) (.inl a.2.1)
theorem X0.write (h:X0 (s,d) all n) (f:look (Qm d) 1=none):X0 (ZbO (s,d)).1 all (n+1):=by
 have j:=ZtT s.now;have c:OkD d:=h.okd;show X0 (s,(Qy d 1 (Ge s.now)).1) all (n+1);have a:=h.more;refine⟨a.ok,a.len,a.recs,a.bs0,a.bsn,a.bas,a.pcn,a.rcn,a.nam,a.two,a.curL,fun i p g=>?_,c.append _ _,(ZoL h.sz f (by omega)).more zL (by omega)⟩
 have e:p.name ∈ Qk d:=h.on (Zwz i) p g;by_cases b:(Qy d 1 (Ge s.now)).2=0
 ·exact(Zbw c b p.name).2 (.inr e)
 ·show p.name ∈ Qk (Qy d 1 (Ge s.now)).1
  rw[Zbb b];exact e
theorem X0.made (h:X0 x all n):X0 (J1 x).1 all (n+1):=by
 unfold J1;have a:=h.sync;rw[Qv];split
 case isFalse=>exact a.more
 generalize (Q5 x).1=b at a;clear h;rw[Qv];split
 case isFalse=>exact a.more
 have q:(ZcE b).1=b:=rfl;rw[q,Qv]
 have f:X0 (Yy b).1 all n:=by
  obtain⟨s,d⟩:=b;exact a.kp (ZwA (s,d)) (ZkY (s,d))
 split
 case isFalse=>exact f.more
 rename_i t
 have g:=ZqE a.okd t;generalize (Yy b).1=j at f g;clear a q;rw[Qv]
 have e:X0 (ZbO j).1 all (n+1):=by
  obtain⟨s,d⟩:=j;exact f.write g
 split
 case isFalse=>exact e
 generalize (ZbO j).1=i at e;clear f g;rw[Qv]
 have c:X0 (Xo (fun d=>Xz d 1) i).1 all (n+1):=by
  obtain⟨s,d⟩:=i;exact e.kp (ZqF (s,d)) ⟨rfl,rfl,rfl⟩
 split
 case isFalse=>exact c
 generalize (Xo (fun d=>Xz d 1) i).1=k at c
 clear e;rw[Qv]
 have l:X0 (Gx k).1 all (n+1):=by
  obtain⟨s,d⟩:=k;exact c.kp (ZtU (s,d)) ⟨rfl,rfl,rfl⟩
 split
 case isFalse=>exact l
 generalize (Gx k).1=m at l;clear c;rw[Qv]
 have p:X0 (Qp m).1 all (n+1):=by
  obtain⟨s,d⟩:=m;exact l.kp (Zjw (s,d)) (ZgG (s,d))
 split
 ·exact p
 ·exact p
theorem Zjx (l:List Q0) (x:Q0):(l++[x]).getD ((l++[x]).length-1) Yf=x:=by
 have e:(l++[x]).length-1=l.length:=by simp
 rw[e];simp[List.getD]
theorem X0.checkpoint (h:X0 x all n):X0 (Qs x).1 all (n+1):=by
 have a:=h.made;have e:=(ZcU x).2.1;unfold Qs;split
 case isFalse=>exact a
 have c:(J1 x).1.1.bases.length<=n+1:=by rw[e];exact h.bsn
 generalize (J1 x).1=y at a c;obtain⟨s,d⟩:=y;have b:OkS s:=a.ok;have g:({ s with bases:=s.bases++[s.now] }:Sto).base=s.now:=Zjx s.bases s.now
 have f:s.log.first<=s.next:=by unfold Sto.next Lgb.next;omega
 refine⟨⟨b.log,b.nx,b.now,b.cur,b.sy,b.cu⟩,a.len,a.recs,by show(s.bases++[s.now]).length≠0;simp,by show(s.bases++[s.now]).length<=_;rw[length_append];have i:s.bases.length<=n+1:=c;simp;omega,?_,a.pcn,a.rcn,a.nam,a.two,a.curL,a.on,a.okd,a.sz⟩
 show s.log.first<=({ s with bases:=s.bases++[s.now] }:Sto).base.idx∧({ s with bases:=s.bases++[s.now] }:Sto).base.idx<=s.next
 rw[g,b.nx];exact⟨f,zen _⟩
end Go.Proofs.YtnahjngbneicaaaGreatDoor
