import Derived.Test.YtnahjngbneicaaaGreatDoorStoreStrS
namespace Go.Proofs.YtnahjngbneicaaaGreatDoor
set_option linter.unusedSimpArgs false
open _root_.Go.Proofs.Tryz
set_option maxRecDepth 100000
variable {l:List Int} {all:List Rec} {d:Dk} {x:SDk} {kind:Int}
def B50 (n:Int):Prop:=-1125899906842624<=n∧n<=1125899906842624
theorem Jx {n:Int} (a:-1099511627777<=n) (b:n<=1099511627777):B50 n:=⟨by omega,by omega⟩
theorem ZyX (h:Gh l) (j:Nat):B50 (l.getD j 0):=by
 by_cases a:j<l.length
 ·have:=h j a
  exact Jx (by omega) (by omega)
 ·have e:l.getD j 0=0:=by simp[List.getD,a]
  rw[e];exact Jx (by decide) (by decide)
theorem ZwG {least:Int} {lo:Int} (b:-1099511627776<=least) (a:Qu least lo l) (key:Int):B50 (ZqU key l):=by
 rw[Zly]
 cases h:Yj key l with
 | none=>exact Jx (by decide) (by decide)
 | some v=>
  have:=ZhF a h;show B50 v;exact Jx (by omega) (by omega)
theorem ZzU (n:Int):B50 (Jp n):=by
 have:=Zby n;exact Jx (by omega) (by omega)
theorem Zyw (s:St) (o:Opn):B50 (Zl s o).2:=by
 have b:B50 0:=Jx (by decide) (by decide)
 have l:B50 1:=Jx (by decide) (by decide)
 have f:B50 (-1):=Jx (by decide) (by decide)
 have k:B50 (-2):=Jx (by decide) (by decide)
 unfold Zl;by_cases e:Ym s
 case neg=>
  rw[zab e];exact b
 rw[zaa (fun d=>d e)]
 split
 ·exact(⟨by decide,by decide⟩:B50 (-1125899906842624))
 split
 ·exact b
 have q:=e.2.2.2.1;have p:=e.2.2.2.2.1;have c:=e.2.2.2.2.2;split
 ·have g:=((X9 (by omega) (by omega)).1 c).2.2
  unfold ZdN
  repeat' split
  all_goals first | exact ZyX g 0 | exact b
 split
 ·have j:=(X9 (by omega) (by omega)).1 c
  have g:=j.2.2;have n:B50 ((s.L.length:Int)):=Jx (by omega) (by have:=j.1;omega)
  have m:B50 ((s.L.length:Int)+1):=Jx (by omega) (by have:=j.1;omega)
  unfold Zo
  repeat' split
  all_goals first | exact ZyX g _ | exact b | exact f | exact n | exact m
 split
 ·rename_i i
  rw[i,ZaL] at c;have d:=ZwG (by decide) c.2 o.a
  unfold Z2
  repeat' split
  all_goals first | exact b | exact f | exact k | exact d
 ·have i:s.kind=5:=by omega
  rw[i,Zar] at c;have d:=ZwG (by decide) c.2 o.a
  unfold Yh De
  repeat' split
  all_goals first | exact b | exact l | exact f | exact k | exact d | exact ZzU _
theorem Zyx {t:List Ent} (h:ZfJ t) (f:∀ e ∈ t,Dh e):Zdv t:=by
 intro i a;unfold ZfJ at h;have d:=zd1.1 h;have b:t.getD i Xj=t[i]:=by simp[List.getD,a]
 refine⟨by rw[b];exact f _ (zcp a),fun g=>?_⟩
 have c:t.getD (i-1) Xj=t[i-1]'(by omega):=by simp[List.getD,show i-1<t.length by omega]
 rw[b,c];exact d (i-1) i (by omega) a (by omega)
def Zyy (s:Q0):Prop:=Ym s.st∧Zdv s.tab
theorem Zyy.next {s:Q0} {r:Rec} (h:Zyy s) (e:Q1 r):Zyy (ZgS s r):=by
 refine⟨ZeD h.1 r.op,Zyx (ZdS h.2.rises) fun x g=>?_⟩
 have a:x ∈ Zcx s.tab ⟨r.proc,r.seq,(Zl s.st r.op).2⟩:=g;rw[ZhR] at a;rcases a with rfl | ⟨a,_⟩
 ·have b:=Zyw s.st r.op
  obtain⟨-,-,-,f,c,i,d,-⟩:=e;exact⟨i,d,f,c,b.1,b.2⟩
 ·exact h.2.mem x a
theorem Zyy.take:∀ {l:List Rec} {s:Q0},Zyy s->(Q4 s l).2=0->Zyy (Q4 s l).1
 | [],_,h,_=>h
 | r::l,s,h,h0=>by
  rw[Q4] at h0 ⊢;split at h0
  ·cases h0
  ·rename_i b
   rw[zaa b];split at h0
   ·cases h0
   ·rename_i a
    rw[zaa a];exact Zyy.take (h.next (Classical.not_not.1 a)) h0
theorem ZwH (h:ZbG all) {kind:Int} (d:0<=kind) (f:kind<6) {j:Nat} (c:j<=all.length) (g:all.length<=100000):Zs (Xv kind all j):=by
 have e:=Zfo h kind c;have a:=Zlc d f;have b:Zyy (Xv kind all j):=Zyy.take (s:=Jd kind) ⟨a.2.1,a.2.2⟩ (h.taken kind j);exact⟨by rw[e];exact⟨by omega,by omega⟩,b.1,b.2⟩
theorem ZrI (h:d.power=-1) (n:Int):(Xz d n).1.power=-1:=by
 unfold Xz;split
 ·exact h
 ·split
  ·show Ye d.power=-1
   rw[h];rfl
  ·exact h
theorem ZqK (h:d.power=-1):(Qn d).1.power=-1:=by
 unfold Qn;split
 ·exact h
 ·show Ye d.power=-1
  rw[h];rfl
theorem ZqL {gs:List (SDk->SDk × Int)} (h:∀ g ∈ gs,∀ x:SDk,x.2.power=-1->(g x).1.2.power=-1):∀ x:SDk,x.2.power=-1->(Qv gs x).1.2.power=-1:=by
 induction gs with
 | nil=>exact fun x a=>a
 | cons g gs d=>
  intro x a;have b:=h g zbp x a;unfold Qv;split
  ·exact d (fun g' c=>h g' (za6 _ c)) (g x).1 b
  ·exact b
theorem Zdb (x:SDk) (h:x.2.power=-1):(Qp x).1.2.power=-1:=ZqK h
theorem ZjG (x:SDk) (h:x.2.power=-1):(Q5 x).1.2.power=-1:=by
 have b:(Qv [Q2,Qw] x).1.2.power=-1:=ZqL (fun g hg y a=>by
  rcases zbd.1 hg with rfl | hg
  ·exact ZrI a _
  ·rw[zaw.1 hg]
   unfold Qw;split
   ·exact Zdb y a
   ·exact a) x h
 unfold Q5;split
 ·exact h
 ·split
  ·exact b
  ·exact b
theorem Zyz (x:SDk) (h:x.2.power=-1):(J1 x).1.2.power=-1:=by
 refine ZqL (fun g b y a=>?_) x h
 simp only [zbd,zc3,zfk] at b;rcases b with rfl | rfl | rfl | rfl | rfl | rfl | rfl
 ·exact ZjG y a
 ·exact a
 ·unfold Yy
  split
  ·exact Zle a 1
  ·exact a
 ·exact Zgg a 1 _
 ·exact ZrI a 1
 ·exact ZtN a 1 _
 ·exact Zdb y a
theorem ZdI (x:SDk) (h:x.2.power=-1):(Qs x).1.2.power=-1:=by
 have:=Zyz x h;unfold Qs;split
 ·exact this
 ·exact this
theorem Zuc (x:SDk) (h:x.2.power=-1):(Zn x).1.2.power=-1:=by
 have b:(Qv (ZeH x.1++[Qp]) x).1.2.power=-1:=ZqL (fun g hg y a=>by
  rcases za2.1 hg with hg | hg
  ·obtain⟨p,-,rfl⟩:=zbm.1 hg
   exact Zle a _
  ·rw[zaw.1 hg]
   exact Zdb y a) x h
 unfold Zn;split
 ·exact b
 ·exact b
theorem ZjH (l:List Rec) (x:SDk) (h:x.2.power=-1):(Xc l x).1.2.power=-1:=by
 unfold Xc;split
 ·exact h
 split
 ·exact h
 split
 ·exact Zgg h _ _
 ·exact Zgg h _ _
theorem ZyA {x:Run} (h:x.1.2.power=-1) {o:SOp} (a:o.kind≠5):(Zx x o).1.2.power=-1:=by
 unfold Zx;split
 ·exact ZjH _ _ h
 split
 ·exact ZjG _ h
 split
 ·show(Yb x.1).1.2.power=-1
  have:=ZjG x.1 h;unfold Yb;split
  ·exact this
  ·exact this
 split
 ·exact ZdI _ h
 split
 ·exact Zuc _ h
 ·exact h
theorem ZwI:∀ (l:List SOp) {x:Run},x.1.2.power=-1->(∀ o ∈ l,o.kind≠5)->(l.foldl Zx x).1.2.power=-1
 | [],_,h,_=>h
 | o::l,x,h,hl=>by
  rw[zd6];exact ZwI l (ZyA h (hl o zbp)) (fun q a=>hl q (za6 _ a))
theorem Zen.baseFound {lo:Nat} (h:Zen kind x all lo) (e:OkD x.2) (q:x.2.waits=[]) (names:Int) (keep:List Int):∃ j:Nat,x.1.base.idx=(j:Int)∧(ZbA (Jc x.2 names keep) kind).base=Xv kind all j:=by
 obtain⟨d,t,c,-⟩:=h.bas;refine⟨d.getLastD 0,c,?_⟩
 have g:Yo x.2 (Zf names x.2.waits.length)=Qm x.2:=by
  unfold Yo Qm;rw[q];simp
 have m:Zlm (Jc x.2 names keep) x.2.files (Dj (Qm x.2)):=fun p u=>by
  have f:=(za3.1 u).1;rw[<-g] at f;have l:=e.dirs (Zf names x.2.waits.length);obtain⟨a,n⟩:=Zlk e names keep ((Y2 l.rise p.1 p.2).2 f);have w:=Zfx e.keep p.2;have v:=ZbH a ((fl x.2.files p.2).b.length-(fl x.2.files p.2).k);refine⟨(fl x.2.files p.2).k+Zf a ((fl x.2.files p.2).b.length-(fl x.2.files p.2).k),by omega,by omega,?_⟩
  rw[n];rfl
 have i:Qm (Jc x.2 names keep)=Qm x.2:=by
  rw[<-g];rfl
 have c:Ya (Jc x.2 names keep) kind=[Jd kind]++d.map (Xv kind all):=by
  unfold Ya Qk;rw[i,ZrD];exact Zgi _ d _ t m
 show Gc (Ya (Jc x.2 names keep) kind)=_;rw[c,Zln]
theorem ZqM {l:List Rec} (h:(Xc l x).2≠0):(Xc l x).1=x:=by
 obtain⟨s,d⟩:=x;unfold Xc at h ⊢;split
 ·rfl
 ·rename_i c
  rw[zaa c] at h;split
  ·rfl
  ·rename_i b
   rw[zaa b] at h
   dsimp only at h ⊢
   split
   ·rename_i a
    rw[zab a] at h;exact absurd rfl h
   ·rename_i a
    rw[Zbb a]
theorem ZwJ (u:0<=kind) (p:kind<6) {s:Sto} {d:Dk} {all:List Rec} {n:Nat} (h:JI kind (s,d) all n) (q:X0 (s,d) all n) (M:d.power=-1) (E:n<=1000):
 ((Qs (s,d)).2=0∨(Qs (s,d)).2=10)∧(Qs (s,d)).1.1.now=s.now∧(Qs (s,d)).1.1.synced=(Qs (s,d)).1.1.next∧
 (ZbA (Jc (Qs (s,d)).1.2 0 []) kind).now=s.now∧((Qs (s,d)).2=0->(ZbA (Jc (Qs (s,d)).1.2 0 []) kind).base=s.now):=by
 obtain⟨lo,h | h⟩:=h
 case inr=>
  have a:d.power=0:=h.pw;omega
 have m:=ZdI (s,d) M;have g:=q.checkpoint
 have v:(Qs (s,d)).1.1.now=s.now:=by
  have:=(ZcU (s,d)).1;unfold Qs;split
  ·exact this
  ·exact this
 have k:s.now=Xv kind all all.length:=h.str.now
 have L:Zs s.now:=by
  rw[k];exact ZwH h.str.al u p zL (by have:=q.rcn;omega)
 have w:=h.checkpoint q u p E;generalize Qs (s,d)=y at m g v w;obtain⟨⟨b,f⟩,c⟩:=y;have l:b.now=s.now:=v
 have x:OnI kind (b,f) all all.length (n+1)->(ZbA (Jc f 0 []) kind).now=s.now∧b.synced=b.next:=fun a=>by
  obtain⟨e,t⟩:=ZqH u p a.str.al g.okd (a.str.good g all.length zL (.inl zL) zL) 0 [];have h2:=t.lo;have B:=t.hi;have F:e=all.length:=by omega
  refine⟨?_,?_⟩
  ·rw[k,<-F]
   exact t.now
  ·have P:b.synced=((all.length:Nat):Int):=a.str.syn
   have J:b.next=((all.length:Nat):Int):=g.len;rw[P,J]
 cases w with
 | done h0 a h2 B=>
  have K:c=0:=h0;have i:=x a;refine⟨.inl K,l,i.2,i.1,fun _=>?_⟩
  obtain⟨j,H,G⟩:=a.str.baseFound g.okd h2 0 [];have C:b.base=b.now:=B;have N:b.base.idx=(j:Int):=H
  have Q:(j:Int)=all.length:=by
   rw[<-N,C,l,k];exact Zfo a.str.al kind zL
  have I:j=all.length:=by omega
  show(ZbA (Jc f 0 []) kind).base=s.now;rw[G,I,k]
 | full h0 a h2=>
  have i:=x a
  have O:c=10:=by
   rcases h2 with h2 | h2 | h2
   ·exact absurd (by show Zs b.now;rw[l];exact L) h2
   ·exact h2
   ·have A:f.power=0:=h2
    have z:f.power=-1:=m;omega
  exact⟨.inr O,l,i.2,i.1,fun D=>absurd D h0⟩
 | down h0 a h2=>
  have A:f.power=0:=h2;have z:f.power=-1:=m;omega
 | dark h0 a=>
  have A:f.power=0:=a.pw;have z:f.power=-1:=m;omega
end Go.Proofs.YtnahjngbneicaaaGreatDoor
