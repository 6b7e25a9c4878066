import Derived.Test.YtnahjngbneicaaaGreatDoorStoreStr
namespace Go.Proofs.YtnahjngbneicaaaGreatDoor
open _root_.Go.Proofs.Tryz
set_option maxRecDepth 100000
variable {kind:Int} {s:Sto} {d:Dk} {all:List Rec} {f lo n:Nat} {E l:Dir} {fs:List Fl} {p:Int × Nat}
theorem ZxZ (room kind:Int):Zfk kind (Zor kind,ZgP room) [] 0:=by
 refine⟨⟨trivial,(fun r a=>by cases a)⟩,rfl,rfl,Nat.le_refl _,trivial,fun _=>trivial,⟨[],trivial,rfl,Nat.le_refl _⟩,fun _=>rfl,fun h=>?_⟩
 have b:(Zor kind).nw=true:=h
 cases b
theorem Zfk.power {kind:Int} {s:Sto} {d:Dk} {all:List Rec} {lo:Nat} (h:Zfk kind (s,d) all lo) (q:Int):Zfk kind (s,{ d with power:=q }) all lo:=
 ⟨h.al,h.now,h.syn,h.lol,h.seg,h.cur0,h.bas,h.nw0,h.nw1⟩
theorem ZtH (d:G9 l) {p q:Int × Nat} (b:p ∈ Xe l) (c:q ∈ l) (a:p.1≠q.1):p.2≠q.2:=ZgS d (List.mem_filter.1 b).1 c (fun e=>a (by rw[e]))
theorem Zcr {g:Nat} (h:f≠g):fl (Gd fs f) g=fl fs g:=by
 unfold Gd;exact Jf h _
theorem ZgC (h:f<fs.length):fl (Gd fs f) f=⟨(fl fs f).b,(fl fs f).b.length⟩:=by
 unfold Gd;exact Zao h _
theorem ZaH (h:Xe l=E++[p]):p ∈ l∧Zro p.1=true:=by
 have:p ∈ Xe l:=by rw[h];simp
 exact List.mem_filter.1 this
theorem Zju (g:G9 l) {p q:Int × Nat} (d:p ∈ Zdn l) (f:q ∈ l) (b:Zro q.1=true):p.2≠q.2:=by
 have a:=List.mem_filter.1 d;refine ZgS g a.1 f (fun e=>?_)
 have c:=(Zfi p.1).1 a.2;have i:=(Zfh q.1).1 b;rw[e] at c;omega
theorem ZgD {q:Int × Nat} (c:Xa l) (e:G9 l) (h:Xe l=E++[p]) (b:q ∈ E):q.2≠p.2:=by
 have d:q ∈ Xe l:=by rw[h];exact List.mem_append_left _ b
 have a:Xa (Xe l):=Y9 c _;rw[h] at a;unfold Xa at a;rw[List.pairwise_append] at a;have:=a.2.2 q b p (by simp)
 exact ZtH e d (ZaH h).1 (by omega)
theorem Zfk.syncFile (h:Zfk kind (s,d) all lo) (f:X4 (s,d) all n) (H:s.cur≠0) (l:(X3 d s.cur).2=0):
 Zfk kind (s,(X3 d s.cur).1) all lo∧Xz kind all (X3 d s.cur).1.files all.length (Xe (Qm (X3 d s.cur).1)) s.log.pcs:=by
 have b:OkD d:=f.okd;obtain⟨a,c,N,C⟩:=f.curL H;have t:s.log.pcs=a++[c]:=N;have M:c.name=s.cur:=C;have j:Xz kind all d.files lo (Xe (Qm d)) s.log.pcs:=h.seg;rw[t] at j;obtain⟨A,p,i⟩:=j.split;rw[i] at j;obtain⟨J,v,z,K⟩:=J8.1 j;have g:=ZaH i
 have L:look (Qm d) s.cur=some p.2:=by
  rw[Zb b.dir.rise,<-M,<-v];exact g.1
 have F:p.2<d.files.length:=(b.dir.may p g.1).2
 have Q:d.power≠0:=fun e=>by
  unfold X3 at l;rw[if_pos e] at l
  cases l
 have e:(X3 d s.cur).1={ d with files:=Gd d.files p.2,power:=Y5 d.power }:=by
  unfold X3;rw[if_neg Q,L]
 rw[e];have D:=f.ok.log.ch;have y:Ga s.log.first (a++[c]) s.log.next:=by rw[<-t];exact D
 have R:s.log.next=all.length:=f.len;obtain⟨m,S,B⟩:=Y1.1 y;have E:c.stop=all.length:=by rw[<-R];exact B.2.2
 have O:Zfl kind all (Gd d.files p.2) A a:=J.files fun q u=>Zcr (fun e=>ZgD b.dir.rise b.dir.apart i u e.symm)
 have G:Zfn kind all (fl (Gd d.files p.2) p.2) c.first.toNat c.stop.toNat all.length:=by
  rw[ZgC F];have:=K.keep;rw[E,Int.toNat_natCast] at this ⊢;exact this
 have k:Xz kind all (Gd d.files p.2) all.length (Xe (Qm d)) s.log.pcs:=by
  rw[i,t];exact J8.2 ⟨O,v,z,G⟩
 refine⟨⟨h.al,h.now,h.syn,h.lol,k.less h.lol,fun _=>k,?_,h.nw0,h.nw1⟩,k⟩
 obtain⟨w,x,P,I⟩:=h.bas;exact⟨w,Zjs.files x fun q u=>Zcr (fun e=>Zju b.dir.apart u g.1 g.2 e.symm),P,I⟩
theorem Zfk.syncDir (h:Zfk kind (s,d) all lo) (a:(Qn d).2=0):Zfk kind ({ s with nw:=false },(Qn d).1) all lo:=by
 have b:d.power≠0:=fun e=>by
  unfold Qn at a;rw[if_pos e] at a
  cases a
 have e:(Qn d).1={ d with kept:=Qm d,waits:=[],power:=Y5 d.power }:=by
  unfold Qn;rw[if_neg b]
 rw[e];exact⟨h.al,h.now,h.syn,h.lol,h.seg,h.cur0,h.bas,fun _=>rfl,fun c=>by cases c⟩
theorem Zfk.raise (h:Zfk kind (s,d) all lo) (k:s.next=all.length) (a:Xz kind all d.files all.length (Xe (Qm d)) s.log.pcs) (f:s.nw=false):Zfk kind (Ye s,d) all all.length:=by
 obtain⟨e,g,c,i⟩:=h.bas;refine⟨h.al,h.now,k,Nat.le_refl _,a,fun _=>a,⟨e,g,c,Nat.le_trans i h.lol⟩,h.nw0,fun j=>?_⟩
 have b:s.nw=true:=j;rw[f] at b
 cases b
theorem Zya {n:Int} (a:(X3 d n).2≠0):(X3 d n).1=d:=by
 unfold X3 at a ⊢;split
 ·rfl
 ·rename_i b
  rw[if_neg b] at a;split
  ·rename_i f c
   rw[c] at a;exact absurd rfl a
  ·rfl
theorem Zfk.sync (h:Zfk kind (s,d) all lo) (l:X4 (s,d) all n):
 ((Q5 (s,d)).2=0∧Zfk kind (Q5 (s,d)).1 all all.length∧(Q5 (s,d)).1.1.nw=false∧Xz kind all (Q5 (s,d)).1.2.files all.length (Xe (Qm (Q5 (s,d)).1.2)) (Q5 (s,d)).1.1.log.pcs)∨((Q5 (s,d)).2≠0∧Zfk kind (Q5 (s,d)).1 all lo∧(Q5 (s,d)).1.2.power=0):=by
 have v:s.next=all.length:=l.len;have G:OkD d:=l.okd;by_cases g:s.cur=0
 ·have e:Q5 (s,d)=((Ye s,d),0):=by unfold Q5;rw[if_pos g]
  have i:s.nw=false:=by
   cases i:s.nw with
   | false=>rfl
   | true=>
    obtain⟨-,-,-,I,-⟩:=h.nw1 i;exact absurd g I
  rw[e];exact .inl ⟨rfl,h.raise v (h.cur0 g) i,i,h.cur0 g⟩
 ·have z:Q1 (s,d)=((s,(X3 d s.cur).1),(X3 d s.cur).2):=rfl
  by_cases k:(X3 d s.cur).2=0
  case neg=>
   have m:Qv [Q1,Qx] (s,d)=((s,d),(X3 d s.cur).2):=by
    rw[Qv,z,if_neg k,Zya k]
   have e:Q5 (s,d)=((s,d),(X3 d s.cur).2):=by
    unfold Q5;rw[if_neg g,m,if_neg k]
   rw[e];refine .inr ⟨k,h,?_⟩;apply Classical.byContradiction;intro D;have B:d.power≠0:=D;obtain⟨a,c,L,E⟩:=l.curL g;have H:s.log.pcs=a++[c]:=L;have K:c.name=s.cur:=E;have A:=l.on B c (by show c ∈ s.log.pcs;rw[H];simp)
   rw[K] at A;obtain⟨f,F⟩:=(Y2 G s.cur).1 A;apply k;unfold X3;rw[if_neg B,F]
  obtain⟨q,u⟩:=h.syncFile l g k;obtain⟨b,x⟩:∃ b,b=(X3 d s.cur).1:=⟨_,rfl⟩;rw[<-x] at q u
  have m:Qv [Q1,Qx] (s,d)=Qv [Qx] (s,b):=by
   rw[Qv,z,if_pos k,x]
  have N:=Zdm Qx (s,b)
  cases i:s.nw with
  | false=>
   have p:Qv [Q1,Qx] (s,d)=((s,b),0):=by
    rw[m]
    have t:Qx (s,b)=((s,b),0):=by
     unfold Qx;rw[if_neg (by show ¬ s.nw=true;rw[i];decide)]
    rw[Qv,t,if_pos rfl];rfl
   have e:Q5 (s,d)=((Ye s,b),0):=by
    unfold Q5;rw[if_neg g,p,if_pos rfl]
   rw[e];exact .inl ⟨rfl,q.raise v u i,i,u⟩
  | true=>
   have t:Qx (s,b)=((if(Qn b).2=0 then { s with nw:=false } else s,(Qn b).1),(Qn b).2):=by
    unfold Qx;rw[if_pos (show s.nw=true from i)];rfl
   by_cases j:(Qn b).2=0
   ·have p:Qv [Q1,Qx] (s,d)=(({ s with nw:=false },(Qn b).1),0):=by
     rw[m,Qv,t,if_pos j,if_pos j];rfl
    have e:Q5 (s,d)=((Ye { s with nw:=false },(Qn b).1),0):=by
     unfold Q5;rw[if_neg g,p,if_pos rfl]
    rw[e];have M:=q.syncDir j
    have w:(Qn b).1.files=b.files∧Qm (Qn b).1=Qm b:=by
     unfold Qn;split
     ·exact⟨rfl,rfl⟩
     ·exact⟨rfl,rfl⟩
    have y:Xz kind all (Qn b).1.files all.length (Xe (Qm (Qn b).1)) s.log.pcs:=by
     rw[w.1,w.2];exact u
    exact .inl ⟨rfl,M.raise v y rfl,rfl,y⟩
   ·obtain⟨J,C⟩:=Zed j
    have p:Qv [Q1,Qx] (s,d)=((s,b),(Qn b).2):=by
     rw[m,Qv,t,if_neg j,if_neg j,C]
    have e:Q5 (s,d)=((s,b),(Qn b).2):=by
     unfold Q5;rw[if_neg g,p,if_neg j]
    rw[e];exact .inr ⟨j,q,J⟩
theorem Zfk.rotate (h:Zfk kind (s,d) all lo) (i:X4 (s,d) all n):(Zfk kind (Yf (s,d)).1 all all.length)∨((Yf (s,d)).2≠0∧Zfk kind (Yf (s,d)).1 all lo∧(Yf (s,d)).1.2.power=0):=by
 rcases h.sync i with ⟨c,a,b,e⟩ | ⟨c,a,b⟩
 ·left
  unfold Yf;rw[if_pos c];generalize (Q5 (s,d)).1=y at a b e;obtain⟨f,l⟩:=y;refine⟨a.al,a.now,a.syn,a.lol,a.seg,fun _=>e,a.bas,a.nw0,fun j=>?_⟩
  have g:f.nw=true:=j;have k:f.nw=false:=b;rw[k] at g
  cases g
 ·right
  unfold Yf;rw[if_neg c];exact⟨c,a,b⟩
end Go.Proofs.YtnahjngbneicaaaGreatDoor
