import Derived.Test.YtnahjngbneicaaaGreatDoorStoreStr
namespace Go.Proofs.YtnahjngbneicaaaGreatDoor
open _root_.Go.Proofs.Tryz
set_option maxRecDepth 100000
variable {kind:Int} {s:Sto} {d:Dk} {all:List Rec} {f lo n:Nat} {E l:Dir} {fs:List Fl} {p:Int × Nat}
theorem ZxZ (room kind:Int):Zfk kind (Zor kind,ZgP room) [] 0:=by
 refine⟨⟨trivial,(fun r b=>by cases b)⟩,rfl,rfl,zat _,trivial,fun _=>trivial,⟨[],trivial,rfl,zat _⟩,fun _=>rfl,fun h=>?_⟩
 have a:(Zor kind).nw=true:=h
 cases a
theorem Zfk.power (h:Zfk kind (s,d) all lo) (q:Int):Zfk kind (s,{ d with power:=q }) all lo:=
 ⟨h.al,h.now,h.syn,h.lol,h.seg,h.cur0,h.bas,h.nw0,h.nw1⟩
theorem ZtH (b:G9 l) {p q:Int × Nat} (a:p ∈ Xe l) (d:q ∈ l) (c:p.1≠q.1):p.2≠q.2:=ZgS b (zax.1 a).1 d (fun e=>c (by rw[e]))
theorem Zcr {g:Nat} (h:f≠g):fl (Gd fs f) g=fl fs g:=by
 unfold Gd;exact Jf h _
theorem ZgC (h:f<fs.length):fl (Gd fs f) f=⟨(fl fs f).b,(fl fs f).b.length⟩:=by
 unfold Gd;exact Zao h _
theorem ZaH (h:Xe l=E++[p]):p ∈ l∧Zro p.1=true:=by
 have:p ∈ Xe l:=by rw[h];simp
 exact zax.1 this
theorem Zju (c:G9 l) {p q:Int × Nat} (b:p ∈ Zdn l) (f:q ∈ l) (d:Zro q.1=true):p.2≠q.2:=by
 have a:=zax.1 b;refine ZgS c a.1 f (fun e=>?_)
 have g:=(Zfi p.1).1 a.2;have i:=(Zfh q.1).1 d;rw[e] at g;omega
theorem ZgD {q:Int × Nat} (e:Xa l) (c:G9 l) (h:Xe l=E++[p]) (b:q ∈ E):q.2≠p.2:=by
 have d:q ∈ Xe l:=by rw[h];exact List.mem_append_left _ b
 have a:Xa (Xe l):=Y9 e _;rw[h] at a;unfold Xa at a;rw[zc2] at a;have:=a.2.2 q b p (by simp)
 exact ZtH c d (ZaH h).1 (by omega)
theorem Zfk.syncFile (h:Zfk kind (s,d) all lo) (i:X4 (s,d) all n) (H:s.cur≠0) (k:(X3 d s.cur).2=0):
 Zfk kind (s,(X3 d s.cur).1) all lo∧Xz kind all (X3 d s.cur).1.files all.length (Xe (Qm (X3 d s.cur).1)) s.log.pcs:=by
 have b:OkD d:=i.okd;obtain⟨a,c,D,O⟩:=i.curL H;have l:s.log.pcs=a++[c]:=D;have Q:c.name=s.cur:=O;have f:Xz kind all d.files lo (Xe (Qm d)) s.log.pcs:=h.seg;rw[l] at f;obtain⟨N,p,g⟩:=f.split;rw[g] at f;obtain⟨I,v,L,z⟩:=J8.1 f;have j:=ZaH g
 have E:look (Qm d) s.cur=some p.2:=by
  rw[Zb b.dir.rise,<-Q,<-v];exact j.1
 have B:p.2<d.files.length:=(b.dir.may p j.1).2
 have F:d.power≠0:=fun e=>by
  unfold X3 at k;rw[zab e] at k
  cases k
 have e:(X3 d s.cur).1={ d with files:=Gd d.files p.2,power:=Y5 d.power }:=by
  unfold X3;rw[zaa F,E]
 rw[e];have A:=i.ok.log.ch;have P:Ga s.log.first (a++[c]) s.log.next:=by rw[<-l];exact A
 have J:s.log.next=all.length:=i.len;obtain⟨m,S,w⟩:=Y1.1 P;have K:c.stop=all.length:=by rw[<-J];exact w.2.2
 have C:Zfl kind all (Gd d.files p.2) N a:=I.files fun q u=>Zcr (fun e=>ZgD b.dir.rise b.dir.apart g u e.symm)
 have y:Zfn kind all (fl (Gd d.files p.2) p.2) c.first.toNat c.stop.toNat all.length:=by
  rw[ZgC B];have:=z.keep;rw[K,za9] at this ⊢;exact this
 have t:Xz kind all (Gd d.files p.2) all.length (Xe (Qm d)) s.log.pcs:=by
  rw[g,l];exact J8.2 ⟨C,v,L,y⟩
 refine⟨⟨h.al,h.now,h.syn,h.lol,t.less h.lol,fun _=>t,?_,h.nw0,h.nw1⟩,t⟩
 obtain⟨R,M,x,G⟩:=h.bas;exact⟨R,Zjs.files M fun q u=>Zcr (fun e=>Zju b.dir.apart u j.1 j.2 e.symm),x,G⟩
theorem Zfk.syncDir (h:Zfk kind (s,d) all lo) (a:(Qn d).2=0):Zfk kind ({ s with nw:=false },(Qn d).1) all lo:=by
 have b:d.power≠0:=fun e=>by
  unfold Qn at a;rw[zab e] at a
  cases a
 have e:(Qn d).1={ d with kept:=Qm d,waits:=[],power:=Y5 d.power }:=by
  unfold Qn;rw[zaa b]
 rw[e];exact⟨h.al,h.now,h.syn,h.lol,h.seg,h.cur0,h.bas,fun _=>rfl,fun c=>by cases c⟩
theorem Zfk.raise (h:Zfk kind (s,d) all lo) (i:s.next=all.length) (a:Xz kind all d.files all.length (Xe (Qm d)) s.log.pcs) (g:s.nw=false):Zfk kind (Ye s,d) all all.length:=by
 obtain⟨k,c,e,f⟩:=h.bas;refine⟨h.al,h.now,i,zat _,a,fun _=>a,⟨k,c,e,zas f h.lol⟩,h.nw0,fun j=>?_⟩
 have b:s.nw=true:=j;rw[g] at b
 cases b
theorem Zya {n:Int} (a:(X3 d n).2≠0):(X3 d n).1=d:=by
 unfold X3 at a ⊢;split
 ·rfl
 ·rename_i b
  rw[zaa b] at a;split
  ·rename_i f c
   rw[c] at a;exact absurd rfl a
  ·rfl
theorem Zfk.sync (h:Zfk kind (s,d) all lo) (l:X4 (s,d) all n):
 ((Q5 (s,d)).2=0∧Zfk kind (Q5 (s,d)).1 all all.length∧(Q5 (s,d)).1.1.nw=false∧Xz kind all (Q5 (s,d)).1.2.files all.length (Xe (Qm (Q5 (s,d)).1.2)) (Q5 (s,d)).1.1.log.pcs)∨((Q5 (s,d)).2≠0∧Zfk kind (Q5 (s,d)).1 all lo∧(Q5 (s,d)).1.2.power=0):=by
 have v:s.next=all.length:=l.len;have L:OkD d:=l.okd;by_cases g:s.cur=0
 ·have e:Q5 (s,d)=((Ye s,d),0):=by unfold Q5;rw[zab g]
  have i:s.nw=false:=by
   cases i:s.nw with
   | false=>rfl
   | true=>
    obtain⟨-,-,-,H,-⟩:=h.nw1 i;exact absurd g H
  rw[e];exact .inl ⟨rfl,h.raise v (h.cur0 g) i,i,h.cur0 g⟩
 ·have y:Q1 (s,d)=((s,(X3 d s.cur).1),(X3 d s.cur).2):=rfl
  by_cases k:(X3 d s.cur).2=0
  case neg=>
   have m:Qv [Q1,Qx] (s,d)=((s,d),(X3 d s.cur).2):=by
    rw[Qv,y,zaa k,Zya k]
   have e:Q5 (s,d)=((s,d),(X3 d s.cur).2):=by
    unfold Q5;rw[zaa g,m,zaa k]
   rw[e];refine .inr ⟨k,h,?_⟩;apply zc4;intro F;have x:d.power≠0:=F;obtain⟨a,c,G,K⟩:=l.curL g;have D:s.log.pcs=a++[c]:=G;have M:c.name=s.cur:=K;have B:=l.on x c (by show c ∈ s.log.pcs;rw[D];simp)
   rw[M] at B;obtain⟨f,E⟩:=(Y2 L s.cur).1 B;apply k;unfold X3;rw[zaa x,E]
  obtain⟨q,u⟩:=h.syncFile l g k;obtain⟨b,A⟩:=zgy ((X3 d s.cur).1);rw[<-A] at q u
  have m:Qv [Q1,Qx] (s,d)=Qv [Qx] (s,b):=by
   rw[Qv,y,zab k,A]
  have N:=Zdm Qx (s,b)
  cases i:s.nw with
  | false=>
   have p:Qv [Q1,Qx] (s,d)=((s,b),0):=by
    rw[m]
    have t:Qx (s,b)=((s,b),0):=by
     unfold Qx;rw[zaa (by show ¬ s.nw=true;rw[i];decide)]
    rw[Qv,t,zab rfl];rfl
   have e:Q5 (s,d)=((Ye s,b),0):=by
    unfold Q5;rw[zaa g,p,zab rfl]
   rw[e];exact .inl ⟨rfl,q.raise v u i,i,u⟩
  | true=>
   have t:Qx (s,b)=((if(Qn b).2=0 then { s with nw:=false } else s,(Qn b).1),(Qn b).2):=by
    unfold Qx;rw[zab (show s.nw=true from i)];rfl
   by_cases j:(Qn b).2=0
   ·have p:Qv [Q1,Qx] (s,d)=(({ s with nw:=false },(Qn b).1),0):=by
     rw[m,Qv,t,zab j,zab j];rfl
    have e:Q5 (s,d)=((Ye { s with nw:=false },(Qn b).1),0):=by
     unfold Q5;rw[zaa g,p,zab rfl]
    rw[e];have C:=q.syncDir j
    have w:(Qn b).1.files=b.files∧Qm (Qn b).1=Qm b:=by
     unfold Qn;split
     ·exact⟨rfl,rfl⟩
     ·exact⟨rfl,rfl⟩
    have z:Xz kind all (Qn b).1.files all.length (Xe (Qm (Qn b).1)) s.log.pcs:=by
     rw[w.1,w.2];exact u
    exact .inl ⟨rfl,C.raise v z rfl,rfl,z⟩
   ·obtain⟨I,J⟩:=Zed j
    have p:Qv [Q1,Qx] (s,d)=((s,b),(Qn b).2):=by
     rw[m,Qv,t,zaa j,zaa j,J]
    have e:Q5 (s,d)=((s,b),(Qn b).2):=by
     unfold Q5;rw[zaa g,p,zaa j]
    rw[e];exact .inr ⟨j,q,I⟩
theorem Zfk.rotate (h:Zfk kind (s,d) all lo) (j:X4 (s,d) all n):(Zfk kind (Yf (s,d)).1 all all.length)∨((Yf (s,d)).2≠0∧Zfk kind (Yf (s,d)).1 all lo∧(Yf (s,d)).1.2.power=0):=by
 rcases h.sync j with ⟨c,a,b,f⟩ | ⟨c,a,b⟩
 ·left
  unfold Yf;rw[zab c];generalize (Q5 (s,d)).1=y at a b f;obtain⟨g,l⟩:=y;refine⟨a.al,a.now,a.syn,a.lol,a.seg,fun _=>f,a.bas,a.nw0,fun i=>?_⟩
  have e:g.nw=true:=i;have k:g.nw=false:=b;rw[k] at e
  cases e
 ·right
  unfold Yf;rw[zaa c];exact⟨c,a,b⟩
end Go.Proofs.YtnahjngbneicaaaGreatDoor
