import Derived.Test.YtnahjngbneicaaaGreatDoorStoreStr
namespace Go.Proofs.YtnahjngbneicaaaGreatDoor
open _root_.Go.Proofs.Tryz
set_option maxRecDepth 100000
variable {kind:Int} {s:Sto} {d:Dk} {all:List Rec} {f lo n:Nat} {E l:Dir} {fs:List Fl} {p:Int × Nat}
theorem ZxZ (room kind:Int):Zfk kind (Zor kind,ZgP room) [] 0:=by
 refine⟨⟨trivial,(fun r b=>by cases b)⟩,rfl,rfl,Nat.le_refl _,trivial,fun _=>trivial,⟨[],trivial,rfl,Nat.le_refl _⟩,fun _=>rfl,fun h=>?_⟩
 have a:(Zor kind).nw=true:=h
 cases a
theorem Zfk.power (h:Zfk kind (s,d) all lo) (q:Int):Zfk kind (s,{ d with power:=q }) all lo:=
 ⟨h.al,h.now,h.syn,h.lol,h.seg,h.cur0,h.bas,h.nw0,h.nw1⟩
theorem ZtH (d:G9 l) {p q:Int × Nat} (c:p ∈ Xe l) (b:q ∈ l) (a:p.1≠q.1):p.2≠q.2:=ZgS d (List.mem_filter.1 c).1 b (fun e=>a (by rw[e]))
theorem Zcr {g:Nat} (h:f≠g):fl (Gd fs f) g=fl fs g:=by
 unfold Gd;exact Jf h _
theorem ZgC (h:f<fs.length):fl (Gd fs f) f=⟨(fl fs f).b,(fl fs f).b.length⟩:=by
 unfold Gd;exact Zao h _
theorem ZaH (h:Xe l=E++[p]):p ∈ l∧Zro p.1=true:=by
 have:p ∈ Xe l:=by rw[h];simp
 exact List.mem_filter.1 this
theorem Zju (f:G9 l) {p q:Int × Nat} (d:p ∈ Zdn l) (c:q ∈ l) (g:Zro q.1=true):p.2≠q.2:=by
 have a:=List.mem_filter.1 d;refine ZgS f a.1 c (fun e=>?_)
 have b:=(Zfi p.1).1 a.2;have h:=(Zfh q.1).1 g;rw[e] at b;omega
theorem ZgD {q:Int × Nat} (d:Xa l) (c:G9 l) (h:Xe l=E++[p]) (b:q ∈ E):q.2≠p.2:=by
 have e:q ∈ Xe l:=by rw[h];exact List.mem_append_left _ b
 have a:Xa (Xe l):=Y9 d _;rw[h] at a;unfold Xa at a;rw[List.pairwise_append] at a;have:=a.2.2 q b p (by simp)
 exact ZtH c e (ZaH h).1 (by omega)
theorem Zfk.syncFile (h:Zfk kind (s,d) all lo) (g:X4 (s,d) all n) (R:s.cur≠0) (u:(X3 d s.cur).2=0):
 Zfk kind (s,(X3 d s.cur).1) all lo∧Xz kind all (X3 d s.cur).1.files all.length (Xe (Qm (X3 d s.cur).1)) s.log.pcs:=by
 have b:OkD d:=g.okd;obtain⟨a,c,C,L⟩:=g.curL R;have t:s.log.pcs=a++[c]:=C;have Q:c.name=s.cur:=L;have f:Xz kind all d.files lo (Xe (Qm d)) s.log.pcs:=h.seg;rw[t] at f;obtain⟨N,p,i⟩:=f.split;rw[i] at f;obtain⟨F,v,O,B⟩:=J8.1 f;have j:=ZaH i
 have A:look (Qm d) s.cur=some p.2:=by
  rw[Zb b.dir.rise,<-Q,<-v];exact j.1
 have M:p.2<d.files.length:=(b.dir.may p j.1).2
 have H:d.power≠0:=fun e=>by
  unfold X3 at u;rw[if_pos e] at u
  cases u
 have e:(X3 d s.cur).1={ d with files:=Gd d.files p.2,power:=Y5 d.power }:=by
  unfold X3;rw[if_neg H,A]
 rw[e];have D:=g.ok.log.ch;have P:Ga s.log.first (a++[c]) s.log.next:=by rw[<-t];exact D
 have G:s.log.next=all.length:=g.len;obtain⟨m,S,J⟩:=Y1.1 P;have K:c.stop=all.length:=by rw[<-G];exact J.2.2
 have z:Zfl kind all (Gd d.files p.2) N a:=F.files fun q k=>Zcr (fun e=>ZgD b.dir.rise b.dir.apart i k e.symm)
 have I:Zfn kind all (fl (Gd d.files p.2) p.2) c.first.toNat c.stop.toNat all.length:=by
  rw[ZgC M];have:=B.keep;rw[K,Int.toNat_natCast] at this ⊢;exact this
 have l:Xz kind all (Gd d.files p.2) all.length (Xe (Qm d)) s.log.pcs:=by
  rw[i,t];exact J8.2 ⟨z,v,O,I⟩
 refine⟨⟨h.al,h.now,h.syn,h.lol,l.less h.lol,fun _=>l,?_,h.nw0,h.nw1⟩,l⟩
 obtain⟨w,E,y,x⟩:=h.bas;exact⟨w,Zjs.files E fun q k=>Zcr (fun e=>Zju b.dir.apart k j.1 j.2 e.symm),y,x⟩
theorem Zfk.syncDir (h:Zfk kind (s,d) all lo) (a:(Qn d).2=0):Zfk kind ({ s with nw:=false },(Qn d).1) all lo:=by
 have b:d.power≠0:=fun e=>by
  unfold Qn at a;rw[if_pos e] at a
  cases a
 have e:(Qn d).1={ d with kept:=Qm d,waits:=[],power:=Y5 d.power }:=by
  unfold Qn;rw[if_neg b]
 rw[e];exact⟨h.al,h.now,h.syn,h.lol,h.seg,h.cur0,h.bas,fun _=>rfl,fun c=>by cases c⟩
theorem Zfk.raise (h:Zfk kind (s,d) all lo) (e:s.next=all.length) (a:Xz kind all d.files all.length (Xe (Qm d)) s.log.pcs) (i:s.nw=false):Zfk kind (Ye s,d) all all.length:=by
 obtain⟨c,k,g,f⟩:=h.bas;refine⟨h.al,h.now,e,Nat.le_refl _,a,fun _=>a,⟨c,k,g,Nat.le_trans f h.lol⟩,h.nw0,fun j=>?_⟩
 have b:s.nw=true:=j;rw[i] at b
 cases b
theorem Zya {n:Int} (a:(X3 d n).2≠0):(X3 d n).1=d:=by
 unfold X3 at a ⊢;split
 ·rfl
 ·rename_i c
  rw[if_neg c] at a;split
  ·rename_i f b
   rw[b] at a;exact absurd rfl a
  ·rfl
theorem Zfk.sync (h:Zfk kind (s,d) all lo) (l:X4 (s,d) all n):
 ((Q5 (s,d)).2=0∧Zfk kind (Q5 (s,d)).1 all all.length∧(Q5 (s,d)).1.1.nw=false∧Xz kind all (Q5 (s,d)).1.2.files all.length (Xe (Qm (Q5 (s,d)).1.2)) (Q5 (s,d)).1.1.log.pcs)∨((Q5 (s,d)).2≠0∧Zfk kind (Q5 (s,d)).1 all lo∧(Q5 (s,d)).1.2.power=0):=by
 have v:s.next=all.length:=l.len;have H:OkD d:=l.okd;by_cases g:s.cur=0
 ·have e:Q5 (s,d)=((Ye s,d),0):=by unfold Q5;rw[if_pos g]
  have i:s.nw=false:=by
   cases i:s.nw with
   | false=>rfl
   | true=>
    obtain⟨-,-,-,D,-⟩:=h.nw1 i;exact absurd g D
  rw[e];exact .inl ⟨rfl,h.raise v (h.cur0 g) i,i,h.cur0 g⟩
 ·have B:Q1 (s,d)=((s,(X3 d s.cur).1),(X3 d s.cur).2):=rfl
  by_cases k:(X3 d s.cur).2=0
  case neg=>
   have p:Qv [Q1,Qx] (s,d)=((s,d),(X3 d s.cur).2):=by
    rw[Qv,B,if_neg k,Zya k]
   have e:Q5 (s,d)=((s,d),(X3 d s.cur).2):=by
    unfold Q5;rw[if_neg g,p,if_neg k]
   rw[e];refine .inr ⟨k,h,?_⟩;apply Classical.byContradiction;intro K;have z:d.power≠0:=K;obtain⟨a,c,F,I⟩:=l.curL g;have J:s.log.pcs=a++[c]:=F;have M:c.name=s.cur:=I;have A:=l.on z c (by show c ∈ s.log.pcs;rw[J];simp)
   rw[M] at A;obtain⟨f,C⟩:=(Y2 H s.cur).1 A;apply k;unfold X3;rw[if_neg z,C]
  obtain⟨t,u⟩:=h.syncFile l g k;obtain⟨b,y⟩:∃ b,b=(X3 d s.cur).1:=⟨_,rfl⟩;rw[<-y] at t u
  have p:Qv [Q1,Qx] (s,d)=Qv [Qx] (s,b):=by
   rw[Qv,B,if_pos k,y]
  have N:=Zdm Qx (s,b)
  cases i:s.nw with
  | false=>
   have m:Qv [Q1,Qx] (s,d)=((s,b),0):=by
    rw[p]
    have q:Qx (s,b)=((s,b),0):=by
     unfold Qx;rw[if_neg (by show ¬ s.nw=true;rw[i];decide)]
    rw[Qv,q,if_pos rfl];rfl
   have e:Q5 (s,d)=((Ye s,b),0):=by
    unfold Q5;rw[if_neg g,m,if_pos rfl]
   rw[e];exact .inl ⟨rfl,t.raise v u i,i,u⟩
  | true=>
   have q:Qx (s,b)=((if(Qn b).2=0 then { s with nw:=false } else s,(Qn b).1),(Qn b).2):=by
    unfold Qx;rw[if_pos (show s.nw=true from i)];rfl
   by_cases j:(Qn b).2=0
   ·have m:Qv [Q1,Qx] (s,d)=(({ s with nw:=false },(Qn b).1),0):=by
     rw[p,Qv,q,if_pos j,if_pos j];rfl
    have e:Q5 (s,d)=((Ye { s with nw:=false },(Qn b).1),0):=by
     unfold Q5;rw[if_neg g,m,if_pos rfl]
    rw[e];have L:=t.syncDir j
    have x:(Qn b).1.files=b.files∧Qm (Qn b).1=Qm b:=by
     unfold Qn;split
     ·exact⟨rfl,rfl⟩
     ·exact⟨rfl,rfl⟩
    have w:Xz kind all (Qn b).1.files all.length (Xe (Qm (Qn b).1)) s.log.pcs:=by
     rw[x.1,x.2];exact u
    exact .inl ⟨rfl,L.raise v w rfl,rfl,w⟩
   ·obtain⟨G,E⟩:=Zed j
    have m:Qv [Q1,Qx] (s,d)=((s,b),(Qn b).2):=by
     rw[p,Qv,q,if_neg j,if_neg j,E]
    have e:Q5 (s,d)=((s,b),(Qn b).2):=by
     unfold Q5;rw[if_neg g,m,if_neg j]
    rw[e];exact .inr ⟨j,t,G⟩
theorem Zfk.rotate (h:Zfk kind (s,d) all lo) (j:X4 (s,d) all n):(Zfk kind (Yf (s,d)).1 all all.length)∨((Yf (s,d)).2≠0∧Zfk kind (Yf (s,d)).1 all lo∧(Yf (s,d)).1.2.power=0):=by
 rcases h.sync j with ⟨c,a,b,f⟩ | ⟨c,a,b⟩
 ·left
  unfold Yf;rw[if_pos c];generalize (Q5 (s,d)).1=y at a b f;obtain⟨e,l⟩:=y;refine⟨a.al,a.now,a.syn,a.lol,a.seg,fun _=>f,a.bas,a.nw0,fun i=>?_⟩
  have g:e.nw=true:=i;have k:e.nw=false:=b;rw[k] at g
  cases g
 ·right
  unfold Yf;rw[if_neg c];exact⟨c,a,b⟩
end Go.Proofs.YtnahjngbneicaaaGreatDoor
