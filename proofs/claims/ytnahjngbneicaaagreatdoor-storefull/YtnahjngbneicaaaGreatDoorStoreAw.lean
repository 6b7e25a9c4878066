import Derived.Test.YtnahjngbneicaaaGreatDoorStoreY
namespace Go.Proofs.YtnahjngbneicaaaGreatDoor
set_option linter.unusedSimpArgs false
open _root_.Go.Proofs.Tryz
open List (length_append)
set_option maxRecDepth 100000
open Go.RowKit
variable {d:Dk} {B N T pd:Nat}
def ZoI:Rec:=⟨0,0,0,⟨1,1,0⟩,0⟩
def ZoJ (kind:Int):Sto:=⟨⟨0,[],[]⟩,[Jd kind],Jd kind,0,0,false⟩
theorem ZcW (room kind:Int):ZbA (Zhe room) kind=ZoJ kind:=by
 have d:Jq (Zhe room) kind=ZaF:=rfl;have c:Ya (Zhe room) kind=[Jd kind]:=rfl;have b:Gc [Jd kind]=Jd kind:=rfl;unfold ZbA;rw[d,c,b]
 have a:ZaF.behind (Jd kind)=(⟨0,[],[]⟩,Jd kind):=by
  unfold Lgb.behind;rw[zaa (fun h=>h.1 rfl)]
  rfl
 rw[a];rfl
theorem ZrB {l:List Rec} (h:Yg l):(Yc l).length<=20+60*l.length:=by
 obtain⟨d,i,b,e⟩:=h;have a:=Zgc l [] (fun r a=>by cases a) b
 unfold Yc;rw[length_append,length_append]
 have c:Q1 (l.headD Qj):=by
  match l,d with
  | r::t,_=>exact b r zbp
 have g:(Lib.uvarint (l.headD Qj).idx.toNat).length<=10:=Gm (by have:=c.2.2.1;omega)
 have f:(Lib.uvarint l.length).length<=10:=Gm (by omega)
 omega
theorem ZzP:Yg [ZoI]:=by decide
def ZdH:List UInt8:=Jz (ZoJ 0) [ZoI]
theorem ZtQ:ZdH.length<=10000:=by
 have e:ZdH=Qd (Xq 3 0 0)++Qd (Yc [ZoI]):=rfl;rw[e,length_append,Xa,Xa];have d:(Xq 3 0 0).length=4:=by simp[Xq,ZxS]
 have c:(Yc [ZoI]).length<=80:=ZrB ZzP;have b:=ZAe (n:=(Xq 3 0 0).length) (by omega)
 have a:=ZAe (n:=(Yc [ZoI]).length) (by omega)
 omega
def Zwx (b:List UInt8):Dk:=⟨10000,[⟨b,0⟩],[],[.give 2 0],-1⟩
def ZAF:Sto:=Y7 (ZoJ 0) 2 [ZoI]
def ZAG (b:List UInt8):Dk:=⟨10000,[⟨b,b.length⟩],[(2,0)],[],-1⟩
def sto2:Sto:=Yi { ZAF with nw:=false }
theorem ZzQ:Xc [ZoI] (ZoJ 0,Zhe 10000)=((ZAF,Zwx ZdH),0):=by
 have g:Ju (ZoJ 0) (Zhe 10000)=2:=rfl;have c:=ZtQ;have d:Jz (ZoJ 0) [ZoI]=ZdH:=rfl
 have a:Qy (Zhe 10000) 2 ZdH=(Zwx ZdH,0):=by
  generalize ZdH=b at c;unfold Qy
  rw[zaa (show(Zhe 10000).power≠0 by decide),zaa (by decide),zaa (by
   show ¬ (((Jh (Zhe 10000):Nat):Int)+(b.length:Int)>10000);have f:Jh (Zhe 10000)=0:=rfl;rw[f]
   omega)]
  rfl
 have e:([ZoI].headD Qj).idx=(ZoJ 0).next:=rfl;unfold Xc;rw[zaa (fun h=>h ZzP),zaa (fun h=>h e),g,d,a,zab rfl]
 rfl
theorem ZBc (b:List UInt8):Q5 (ZAF,Zwx b)=((sto2,ZAG b),0):=rfl
theorem hpeD (w:World) (p:Nat):(binOp .eql 26 (ptr p) (.pointer none)).run prog w=.ok (.bool false) w:=by kernel_rfl
theorem hpnD (w:World) (p:Nat):(binOp .neq 26 (ptr p) (.pointer none)).run prog w=.ok (.bool true) w:=by kernel_rfl
theorem ZBd (w:World) (p:Nat):(binOp .eql 28 (ptr p) (.pointer none)).run prog w=.ok (.bool false) w:=by kernel_rfl
theorem Bnd.sz (h:Bnd d N T):SzD d N T:=⟨h.files,h.bytes⟩
theorem Zwy (kind:Int) (w:World) (h:Zzr B w pd d N T) (m:B<=w.heap.size) (i:N<=900) (b:T<=90000) (c:N*T<=9000000):
 Calls prog 13 #[ptr pd,.int .i64 kind] w fun e w'=>Zww (fun k=>k<B) w pd d kind N T e w':=by
 obtain⟨n,g⟩:=h.ok;obtain⟨F,f,j⟩:=h;exact ZrA kind w f (fun k a l=>by have:=j k a;omega) (fun k a=>by omega) (by omega) (by omega) g.sz i b c
theorem ZoK {w w':World} (h:Ql (fun k=>¬ k<B) w w') (a:B<=w.heap.size):Below B w w':=h.below a (fun k b=>by omega)
theorem ZrC (kind:Int) (w:World) (h:Zzr B w pd d N T) (l:B<=w.heap.size) (m:N<=900) (a:T<=90000) (c:N*T<=9000000) (b:ZgT d kind=0):
 Calls prog 13 #[ptr pd,.int .i64 kind] w fun e w'=>∃ p,e=.returned (.tuple #[ptr p,.int .i64 0])∧SD (fun k=>k<B) w' pd p (ZbA d kind) d N T∧Below w.heap.size w w':=
 (Zwy kind w h l m a c).mono fun e w' i=>by
  rcases i with ⟨g,-⟩ | ⟨-,p,n,j,f⟩
  ·exact absurd b g
  ·exact⟨p,n,j,f⟩
theorem Zyp (W:World):RdR (W.alloc (.cells #[.int .i64 0,.int .i64 0,.int .i64 0,.int .i64 1,.int .i64 1,.int .i64 0,.int .i64 0] 62)) (.slice (some ⟨W.heap.size,0,none⟩) 1 1) [ZoI]:=by
 have c:=zgr (base:=0) (e:=62) W (Jg ZoI) 1 (zap _) (by unfold maxLen;omega) (size:=7) rfl
 have a:Xl (W.alloc (.cells (Jg ZoI) 62)) 0 (.slice (some ⟨W.heap.size,0,none⟩) 1 1) [ZoI]:=by
  unfold Xl;have e:Qx [ZoI]=(Jg ZoI).toList:=by simp[Qx]
  rw[e];exact c
 exact a.rd (fun r b=>by
  rw[zaw.1 b]
  exact Zck (ZzP.2.2.1 ZoI (by simp)))
set_option maxHeartbeats 4000000 in
theorem ZtR (w:World):Calls prog 7 #[] w fun e w'=>e=.returned (.bool true)∧Below w.heap.size w w':=by
 obtain⟨B,hB⟩:=zg7 w.heap.size;have ac:B<=w.heap.size:=by omega
 rw[<-hB];have HN:=ZZ (Zri B 10000 ⟨by decide,by decide⟩ w ac)
 have av:=hpeD;have aw:=ZBd;clear hB
 go_enter func7,ntmps7
 go_wp2_with fail
 refine HN.o.mono ?_;rintro e W1 ⟨pd,rfl,W,E⟩;have af:=ZZ E;have u:B<=W1.heap.size:=zau ac E.size;have K:=ZZ (ZrC 0 W1 W u (by decide) (by decide) (by decide) rfl)
 rw[ZcW] at K;clear W E HN
 go_wp2_with fail
 refine K.o.mono ?_;rintro e a ⟨p,rfl,ab,N⟩;have Q:=ZZ ab;have ai:=ZZ (af.o.trans (N.mono u));have an:B<=a.heap.size:=zau u N.size;clear ab N K af u;obtain⟨b,j⟩:=zg7 (a.alloc (.cells #[.int .i64 0,.int .i64 0,.int .i64 0,.int .i64 1,.int .i64 1,.int .i64 0,.int .i64 0] 62));have aq:b.heap.size=a.heap.size+1:=by rw[j];simp
 have A:Hid (Below a.heap.size a b):=ZZ (by rw[j];exact Z3 _ _)
 have X:Hid (Calls prog 22 #[ptr p,.slice (some ⟨a.heap.size,0,none⟩) 1 1] b fun e w'=>J3 (fun k=>k<B∨(a.heap.size<=k∧k<b.heap.size)) b pd p ((ZAF,Zwx ZdH),0) 2 30000 e w'):=ZZ (by
  have f:=Zef (.slice (some ⟨a.heap.size,0,none⟩) 1 1) [ZoI] b (Q.o.fresh A.o) (fun k hk=>by
   rcases hk with hk | hk
   ·omega
   ·exact hk.2) (by have:=Zfl (d:=Zhe 10000) (kind:=0) (by decide) (by decide);rw[ZcW] at this;exact this) (by rw[j];exact Zyp a) (.inr fun k hk=>by
   have e:a.heap.size=k:=zaq hk
   exact .inr (by omega)) (by decide) (by decide) (by decide) (by decide)
  rw[ZzQ] at f
  exact f)
 have ag:=ZZ j;clear j Q
 go_wp2_with fail
 rw[<-ag.o];refine X.o.mono ?_;rintro e t ⟨rfl,V,G⟩;have ae:Hid (SD (fun k=>k<B) t pd p ZAF (Zwx ZdH) 2 30000):=ZZ (V.less (fun k hk=>.inl hk))
 have S:Hid (Below B w t):=ZZ ((ai.o.trans (A.o.mono an)).trans (ZoK (G.mono (fun k hk C=>hk (.inl C))) (by omega)))
 have O:B<=t.heap.size:=by have:=G.size;omega
 clear V G X ag A ai aq;have D:=ZZ (ZeX t ae.o (fun k hk=>by omega) ⟨by decide,by decide,⟨by decide,by decide⟩,⟨by decide,by decide⟩⟩)
 rw[ZBc] at D
 go_wp2_with fail
 refine D.o.mono ?_;rintro e c ⟨rfl,aj,z⟩;have H:Hid (SD (fun k=>k<B) c pd p sto2 (ZAG ZdH) 6 30000):=ZZ aj
 have Y:Hid (Below B w c):=ZZ (S.o.trans (ZoK z O));have aa:B<=c.heap.size:=zau O z.size;clear aj z D ae S
 have R:Hid (Calls prog 28 #[ptr pd] c fun e w'=>∃ v,e=.returned v∧Qt w' c.heap.size v [2]∧Below c.heap.size c w'):=ZZ (by
  obtain⟨F,M,I,L,f,h2,h3,-⟩:=H.o
  exact ZsC (B:=B) c ⟨F,f,fun k hk=>by have:=h3 k hk;omega⟩ (by decide))
 go_wp2_with fail
 refine R.o.mono ?_;rintro e g ⟨v6,rfl,ad,x⟩;have J:=ZZ (H.o.below x);have T:=ZZ (Y.o.trans (x.mono aa));have ap:B<=g.heap.size:=zau aa x.size;obtain⟨ao,cap,Z,-,-,-,-,i⟩:=ad.rd (fun n C=>by rw[zaw.1 C];exact⟨by decide,by decide⟩)
 rcases i with i | ⟨l,m,al,i⟩
 ·cases i
 have ar:=ZZ (i 0 (by decide))
 subst al;have ak:Hid (v6=.slice (some ⟨l,m,none⟩) 1 cap):=ZZ Z;have P:Hid (Calls prog 14 #[ptr p] g fun e w'=>e=.returned (.int .i64 1)∧Below g.heap.size g w'):=ZZ (J.o.next ⟨by decide,by decide,⟨by decide,by decide⟩,⟨by decide,by decide⟩⟩)
 rw[ak.o];clear i Z ad x R H Y
 go_wp2_with fail
 refine P.o.mono ?_;rintro e q ⟨rfl,y⟩
 have au:Hid (Calls prog 11 #[ptr p] q fun e w'=>e=.returned (.int .i64 1)∧w'=q):=ZZ (by
  obtain⟨F,M,I,L,f,h2,-⟩:=J.o.below y
  exact ZiH q h2)
 have U:q.cell? ⟨l,m+0,none⟩=some (.int .i64 2):=by
  have f:g.cell? ⟨l,m+0,none⟩=some (.int .i64 2):=ar.o;rw[y.cell (p:=⟨l,m+0,none⟩) (za1 g _ f)];exact f
 have ax:q.cell? ⟨l,m,none⟩=some (.int .i64 2):=U;have am:=ZZ (T.o.trans (y.mono ap));clear y P J T U
 go_wp2_with fail
 refine au.o.mono ?_;rintro e W8 ⟨rfl,rfl⟩;go_wp2;go_ret;exact⟨by first | rfl | simp,am.o⟩
end Go.Proofs.YtnahjngbneicaaaGreatDoor
