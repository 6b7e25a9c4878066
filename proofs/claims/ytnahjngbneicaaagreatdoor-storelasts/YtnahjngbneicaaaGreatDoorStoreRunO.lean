import Derived.Test.YtnahjngbneicaaaGreatDoorStoreRunN
namespace Go.Proofs.YtnahjngbneicaaaGreatDoor
open _root_.Go.Proofs.Tryz
open List (length_append)
set_option maxRecDepth 100000
variable {x:SDk} {s:Sto} {d:Dk} {all:List Rec} {n:Nat}
theorem ZbS:∀ (n:Nat) (l:List UInt8),l.length<=n->(Qf (Ya l)).length*64<=78*l.length+896
 | 0,l,h=>by
  have e:l=[]:=List.eq_nil_of_length_eq_zero (by omega)
  rw[e,Yn];simp[Qf]
 | n+1,l,h=>by
  by_cases e:l=[]
  ·rw[e,Yn]
   simp[Qf]
  ·rw[Zx e,Q8,length_append]
   have b:=J7 (d:=l.take 64) (by rw[List.length_take];omega)
   have a:l.length≠0:=fun a=>e (List.eq_nil_of_length_eq_zero a)
   have f:=ZbS n (l.drop 64) (by rw[List.length_drop];omega)
   rw[List.length_drop] at f;rw[List.length_take] at b;by_cases g:l.length<=64
   ·have c:l.drop 64=[]:=List.drop_eq_nil_of_le g
    rw[c,Yn];simp only [Qf,List.flatMap_nil,List.length_nil];omega
   ·omega
theorem Ztz (n:Q0):(Gb n).length<=6200:=by
 unfold Gb;split
 ·rename_i h
  unfold ZjA ZaI;rw[Q8,length_append];have b:=Zay h;have e:=Zey (i:=n.idx.toNat) (by have:=h.1;omega) (w:=Xt n) (by omega)
  have c:=J7 (d:=Zbn n.idx.toNat (Xt n)) (by omega)
  have a:=ZbS _ (Xt n) zL;omega
 ·exact Nat.zero_le _
theorem Zwj (x:SDk):Kp x.2 (Yy x).1.2∧(Yy x).1.1.cur=x.1.cur∧(Yy x).1.1.synced=x.1.synced:=by
 unfold Yy;split
 ·exact⟨ZvZ (by decide),rfl,rfl⟩
 ·exact⟨Kp.refl _,rfl,rfl⟩
theorem Zqt (b:OkD x.2) (h:(Yy x).2=0):look (Qm (Yy x).1.2) 1=none:=by
 unfold Yy at h ⊢;split
 ·rename_i a
  rw[if_pos a] at h;have c:(Qj x.2 1).2=0:=h;show look (Qm (Qj x.2 1).1) 1=none;rw[Zjk b c,if_pos rfl]
 ·rename_i a
  show look (Qm x.2) 1=none
  cases hl:look (Qm x.2) 1 with
  | none=>rfl
  | some f=>exact absurd ((Y2 b 1).2 ⟨f,hl⟩) a
theorem ZtA (x:SDk):Kp x.2 (Gs x).1.2∧(Gs x).1.1.cur=x.1.cur∧(Gs x).1.1.synced=x.1.synced:=by
 have h:=Zan (d:=x.2) 3;exact⟨Zwa (by decide) (by omega),rfl,rfl⟩
theorem Zqu (x:SDk):Kp x.2 (Xm (fun d=>X3 d 1) x).1.2∧(Xm (fun d=>X3 d 1) x).1.1.cur=x.1.cur∧(Xm (fun d=>X3 d 1) x).1.1.synced=x.1.synced:=⟨ZvY _ _,rfl,rfl⟩
theorem X4.kp {y:SDk} (h:X4 (s,d) all n) (a:Kp d y.2∧y.1.cur=s.cur∧y.1.synced=s.synced) (b:y.1.now=s.now∧y.1.bases=s.bases∧y.1.log=s.log):X4 y all n:=
 X4.head (s':=y.1) (d':=y.2) h a.1 b.2.2 b.2.1 b.1 (.inl a.2.2) (.inl a.2.1)
theorem X4.write (h:X4 (s,d) all n) (f:look (Qm d) 1=none):X4 (ZbN (s,d)).1 all (n+1):=by
 have j:=Ztz s.now;have b:OkD d:=h.okd;show X4 (s,(Qy d 1 (Gb s.now)).1) all (n+1);have a:=h.more;refine⟨a.ok,a.len,a.recs,a.bs0,a.bsn,a.bas,a.pcn,a.rcn,a.nam,a.two,a.curL,fun g p i=>?_,b.append _ _,(Zot h.sz f (by omega)).more zL (by omega)⟩
 have c:p.name ∈ Qk d:=h.on (Zwi g) p i;by_cases e:(Qy d 1 (Gb s.now)).2=0
 ·exact(Zbz b e p.name).2 (.inr c)
 ·show p.name ∈ Qk (Qy d 1 (Gb s.now)).1
  rw[ZbQ e];exact c
theorem X4.made (h:X4 x all n):X4 (J5 x).1 all (n+1):=by
 unfold J5;have a:=h.sync;rw[Qv];split
 case isFalse=>exact a.more
 generalize (Q5 x).1=b at a;clear h;rw[Qv];split
 case isFalse=>exact a.more
 have q:(ZcG b).1=b:=rfl;rw[q,Qv]
 have e:X4 (Yy b).1 all n:=by
  obtain⟨s,d⟩:=b;exact a.kp (Zwj (s,d)) (ZkL (s,d))
 split
 case isFalse=>exact e.more
 rename_i t
 have g:=Zqt a.okd t;generalize (Yy b).1=j at e g;clear a q;rw[Qv]
 have f:X4 (ZbN j).1 all (n+1):=by
  obtain⟨s,d⟩:=j;exact e.write g
 split
 case isFalse=>exact f
 generalize (ZbN j).1=l at f;clear e g;rw[Qv]
 have c:X4 (Xm (fun d=>X3 d 1) l).1 all (n+1):=by
  obtain⟨s,d⟩:=l;exact f.kp (Zqu (s,d)) ⟨rfl,rfl,rfl⟩
 split
 case isFalse=>exact c
 generalize (Xm (fun d=>X3 d 1) l).1=i at c
 clear f;rw[Qv]
 have k:X4 (Gs i).1 all (n+1):=by
  obtain⟨s,d⟩:=i;exact c.kp (ZtA (s,d)) ⟨rfl,rfl,rfl⟩
 split
 case isFalse=>exact k
 generalize (Gs i).1=m at k;clear c;rw[Qv]
 have p:X4 (Qq m).1 all (n+1):=by
  obtain⟨s,d⟩:=m;exact k.kp (Zjm (s,d)) (Zgx (s,d))
 split
 ·exact p
 ·exact p
theorem Zjn (l:List Q0) (x:Q0):(l++[x]).getD ((l++[x]).length-1) Yb=x:=by
 have e:(l++[x]).length-1=l.length:=by simp
 rw[e];simp[List.getD]
theorem X4.checkpoint (h:X4 x all n):X4 (Xp x).1 all (n+1):=by
 have a:=h.made;have f:=(Zfa x).2.1;unfold Xp;split
 case isFalse=>exact a
 have c:(J5 x).1.1.bases.length<=n+1:=by rw[f];exact h.bsn
 generalize (J5 x).1=y at a c;obtain⟨s,d⟩:=y;have b:OkS s:=a.ok;have e:({ s with bases:=s.bases++[s.now] }:Sto).base=s.now:=Zjn s.bases s.now
 have g:s.log.first<=s.next:=by unfold Sto.next Lgb.next;omega
 refine⟨⟨b.log,b.nx,b.now,b.cur,b.sy,b.cu⟩,a.len,a.recs,by show(s.bases++[s.now]).length≠0;simp,by show(s.bases++[s.now]).length<=_;rw[length_append];have i:s.bases.length<=n+1:=c;simp;omega,?_,a.pcn,a.rcn,a.nam,a.two,a.curL,a.on,a.okd,a.sz⟩
 show s.log.first<=({ s with bases:=s.bases++[s.now] }:Sto).base.idx∧({ s with bases:=s.bases++[s.now] }:Sto).base.idx<=s.next
 rw[e,b.nx];exact⟨g,Int.le_refl _⟩
end Go.Proofs.YtnahjngbneicaaaGreatDoor
