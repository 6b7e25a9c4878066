import Derived.Test.YtnahjngbneicaaaGreatDoorStoreStr
namespace Go.Proofs.YtnahjngbneicaaaGreatDoor
set_option linter.unusedSimpArgs false
open _root_.Go.Proofs.Tryz
set_option maxRecDepth 100000
variable {kind:Int} {s:Sto} {d:Dk} {all:List Rec} {f lo n:Nat} {E l:Dir} {fs:List Fl} {p:Int × Nat}
theorem Zyt (room kind:Int):Zen kind (ZoJ kind,Zhe room) [] 0:=by
 refine⟨⟨trivial,(fun r a=>by cases a)⟩,rfl,rfl,za0 _,trivial,fun _=>trivial,⟨[],trivial,rfl,za0 _⟩,fun _=>rfl,fun h=>?_⟩
 have b:(ZoJ kind).nw=true:=h
 cases b
theorem Zen.power {kind:Int} {s:Sto} {d:Dk} {all:List Rec} {lo:Nat} (h:Zen kind (s,d) all lo) (q:Int):Zen kind (s,{ d with power:=q }) all lo:=
 ⟨h.al,h.now,h.syn,h.lol,h.seg,h.cur0,h.bas,h.nw0,h.nw1⟩
theorem ZtX (a:Dc l) {p q:Int × Nat} (d:p ∈ Xg l) (b:q ∈ l) (c:p.1≠q.1):p.2≠q.2:=Zhh a (za3.1 d).1 b (fun e=>c (by rw[e]))
theorem Zcq {g:Nat} (h:f≠g):fl (Gi fs f) g=fl fs g:=by
 unfold Gi;exact Jk h _
theorem ZgL (h:f<fs.length):fl (Gi fs f) f=⟨(fl fs f).b,(fl fs f).b.length⟩:=by
 unfold Gi;exact Zao h _
theorem ZaI (h:Xg l=E++[p]):p ∈ l∧ZrE p.1=true:=by
 have:p ∈ Xg l:=by rw[h];simp
 exact za3.1 this
theorem ZjC (c:Dc l) {p q:Int × Nat} (f:p ∈ Dj l) (d:q ∈ l) (b:ZrE q.1=true):p.2≠q.2:=by
 have a:=za3.1 f;refine Zhh c a.1 d (fun e=>?_)
 have g:=(Zfq p.1).1 a.2;have i:=(Zfp q.1).1 b;rw[e] at g;omega
theorem ZgM {q:Int × Nat} (e:Xb l) (c:Dc l) (h:Xg l=E++[p]) (b:q ∈ E):q.2≠p.2:=by
 have d:q ∈ Xg l:=by rw[h];exact List.mem_append_left _ b
 have a:Xb (Xg l):=Zc e _;rw[h] at a;unfold Xb at a;rw[zde] at a;have:=a.2.2 q b p (by simp)
 exact ZtX c d (ZaI h).1 (by omega)
theorem Zen.syncFile (h:Zen kind (s,d) all lo) (i:X0 (s,d) all n) (x:s.cur≠0) (u:(Xz d s.cur).2=0):
 Zen kind (s,(Xz d s.cur).1) all lo∧X4 kind all (Xz d s.cur).1.files all.length (Xg (Qm (Xz d s.cur).1)) s.log.pcs:=by
 have b:OkD d:=i.okd;obtain⟨a,c,B,y⟩:=i.curL x;have l:s.log.pcs=a++[c]:=B;have C:c.name=s.cur:=y;have f:X4 kind all d.files lo (Xg (Qm d)) s.log.pcs:=h.seg;rw[l] at f;obtain⟨J,p,g⟩:=f.split;rw[g] at f;obtain⟨E,v,G,K⟩:=Gb.1 f;have j:=ZaI g
 have H:look (Qm d) s.cur=some p.2:=by
  rw[Y2 b.dir.rise,<-C,<-v];exact j.1
 have M:p.2<d.files.length:=(b.dir.may p j.1).2
 have P:d.power≠0:=fun e=>by
  unfold Xz at u;rw[zab e] at u
  cases u
 have e:(Xz d s.cur).1={ d with files:=Gi d.files p.2,power:=Ye d.power }:=by
  unfold Xz;rw[zaa P,H]
 rw[e];have R:=i.ok.log.ch;have A:Gd s.log.first (a++[c]) s.log.next:=by rw[<-l];exact R
 have Q:s.log.next=all.length:=i.len;obtain⟨m,S,D⟩:=Y5.1 A;have I:c.stop=all.length:=by rw[<-Q];exact D.2.2
 have L:Zfs kind all (Gi d.files p.2) J a:=E.files fun q k=>Zcq (fun e=>ZgM b.dir.rise b.dir.apart g k e.symm)
 have O:Zfv kind all (fl (Gi d.files p.2) p.2) c.first.toNat c.stop.toNat all.length:=by
  rw[ZgL M];have:=K.keep;rw[I,zbj] at this ⊢;exact this
 have t:X4 kind all (Gi d.files p.2) all.length (Xg (Qm d)) s.log.pcs:=by
  rw[g,l];exact Gb.2 ⟨L,v,G,O⟩
 refine⟨⟨h.al,h.now,h.syn,h.lol,t.less h.lol,fun _=>t,?_,h.nw0,h.nw1⟩,t⟩
 obtain⟨z,N,w,F⟩:=h.bas;exact⟨z,ZjB.files N fun q k=>Zcq (fun e=>ZjC b.dir.apart k j.1 j.2 e.symm),w,F⟩
theorem Zen.syncDir (h:Zen kind (s,d) all lo) (a:(Qn d).2=0):Zen kind ({ s with nw:=false },(Qn d).1) all lo:=by
 have c:d.power≠0:=fun e=>by
  unfold Qn at a;rw[zab e] at a
  cases a
 have e:(Qn d).1={ d with kept:=Qm d,waits:=[],power:=Ye d.power }:=by
  unfold Qn;rw[zaa c]
 rw[e];exact⟨h.al,h.now,h.syn,h.lol,h.seg,h.cur0,h.bas,fun _=>rfl,fun b=>by cases b⟩
theorem Zen.raise (h:Zen kind (s,d) all lo) (j:s.next=all.length) (b:X4 kind all d.files all.length (Xg (Qm d)) s.log.pcs) (k:s.nw=false):Zen kind (Yi s,d) all all.length:=by
 obtain⟨c,e,g,i⟩:=h.bas;refine⟨h.al,h.now,j,za0 _,b,fun _=>b,⟨c,e,g,zau i h.lol⟩,h.nw0,fun f=>?_⟩
 have a:s.nw=true:=f;rw[k] at a
 cases a
theorem Zyu {n:Int} (a:(Xz d n).2≠0):(Xz d n).1=d:=by
 unfold Xz at a ⊢;split
 ·rfl
 ·rename_i c
  rw[zaa c] at a;split
  ·rename_i f b
   rw[b] at a;exact absurd rfl a
  ·rfl
theorem Zen.sync (h:Zen kind (s,d) all lo) (m:X0 (s,d) all n):
 ((Q5 (s,d)).2=0∧Zen kind (Q5 (s,d)).1 all all.length∧(Q5 (s,d)).1.1.nw=false∧X4 kind all (Q5 (s,d)).1.2.files all.length (Xg (Qm (Q5 (s,d)).1.2)) (Q5 (s,d)).1.1.log.pcs)∨((Q5 (s,d)).2≠0∧Zen kind (Q5 (s,d)).1 all lo∧(Q5 (s,d)).1.2.power=0):=by
 have v:s.next=all.length:=m.len;have M:OkD d:=m.okd;by_cases g:s.cur=0
 ·have e:Q5 (s,d)=((Yi s,d),0):=by unfold Q5;rw[zab g]
  have i:s.nw=false:=by
   cases i:s.nw with
   | false=>rfl
   | true=>
    obtain⟨-,-,-,C,-⟩:=h.nw1 i;exact absurd g C
  rw[e];exact .inl ⟨rfl,h.raise v (h.cur0 g) i,i,h.cur0 g⟩
 ·have z:Q2 (s,d)=((s,(Xz d s.cur).1),(Xz d s.cur).2):=rfl
  by_cases k:(Xz d s.cur).2=0
  case neg=>
   have l:Qv [Q2,Qw] (s,d)=((s,d),(Xz d s.cur).2):=by
    rw[Qv,z,zaa k,Zyu k]
   have e:Q5 (s,d)=((s,d),(Xz d s.cur).2):=by
    unfold Q5;rw[zaa g,l,zaa k]
   rw[e];refine .inr ⟨k,h,?_⟩;apply zca;intro F;have x:d.power≠0:=F;obtain⟨a,c,H,E⟩:=m.curL g;have D:s.log.pcs=a++[c]:=H;have G:c.name=s.cur:=E;have y:=m.on x c (by show c ∈ s.log.pcs;rw[D];simp)
   rw[G] at y;obtain⟨f,K⟩:=(Y6 M s.cur).1 y;apply k;unfold Xz;rw[zaa x,K]
  obtain⟨u,t⟩:=h.syncFile m g k;obtain⟨b,w⟩:=zg7 ((Xz d s.cur).1);rw[<-w] at u t
  have l:Qv [Q2,Qw] (s,d)=Qv [Qw] (s,b):=by
   rw[Qv,z,zab k,w]
  have N:=Zds Qw (s,b)
  cases i:s.nw with
  | false=>
   have p:Qv [Q2,Qw] (s,d)=((s,b),0):=by
    rw[l]
    have q:Qw (s,b)=((s,b),0):=by
     unfold Qw;rw[zaa (by show ¬ s.nw=true;rw[i];decide)]
    rw[Qv,q,zab rfl];rfl
   have e:Q5 (s,d)=((Yi s,b),0):=by
    unfold Q5;rw[zaa g,p,zab rfl]
   rw[e];exact .inl ⟨rfl,u.raise v t i,i,t⟩
  | true=>
   have q:Qw (s,b)=((if(Qn b).2=0 then { s with nw:=false } else s,(Qn b).1),(Qn b).2):=by
    unfold Qw;rw[zab (show s.nw=true from i)];rfl
   by_cases j:(Qn b).2=0
   ·have p:Qv [Q2,Qw] (s,d)=(({ s with nw:=false },(Qn b).1),0):=by
     rw[l,Qv,q,zab j,zab j];rfl
    have e:Q5 (s,d)=((Yi { s with nw:=false },(Qn b).1),0):=by
     unfold Q5;rw[zaa g,p,zab rfl]
    rw[e];have J:=u.syncDir j
    have B:(Qn b).1.files=b.files∧Qm (Qn b).1=Qm b:=by
     unfold Qn;split
     ·exact⟨rfl,rfl⟩
     ·exact⟨rfl,rfl⟩
    have A:X4 kind all (Qn b).1.files all.length (Xg (Qm (Qn b).1)) s.log.pcs:=by
     rw[B.1,B.2];exact t
    exact .inl ⟨rfl,J.raise v A rfl,rfl,A⟩
   ·obtain⟨I,L⟩:=Zem j
    have p:Qv [Q2,Qw] (s,d)=((s,b),(Qn b).2):=by
     rw[l,Qv,q,zaa j,zaa j,L]
    have e:Q5 (s,d)=((s,b),(Qn b).2):=by
     unfold Q5;rw[zaa g,p,zaa j]
    rw[e];exact .inr ⟨j,u,I⟩
theorem Zen.rotate (h:Zen kind (s,d) all lo) (j:X0 (s,d) all n):(Zen kind (Yb (s,d)).1 all all.length)∨((Yb (s,d)).2≠0∧Zen kind (Yb (s,d)).1 all lo∧(Yb (s,d)).1.2.power=0):=by
 rcases h.sync j with ⟨b,a,c,f⟩ | ⟨b,a,c⟩
 ·left
  unfold Yb;rw[zab b];generalize (Q5 (s,d)).1=y at a c f;obtain⟨g,l⟩:=y;refine⟨a.al,a.now,a.syn,a.lol,a.seg,fun _=>f,a.bas,a.nw0,fun k=>?_⟩
  have e:g.nw=true:=k;have i:g.nw=false:=c;rw[i] at e
  cases e
 ·right
  unfold Yb;rw[zaa b];exact⟨b,a,c⟩
end Go.Proofs.YtnahjngbneicaaaGreatDoor
