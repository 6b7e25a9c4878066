import Derived.Test.YtnahjngbneicaaaGreatDoorStoreY
import Derived.Test.YtnahjngbneicaaaGreatDoorOpenStore
namespace Go.Proofs.YtnahjngbneicaaaGreatDoor
open _root_.Go.Proofs.Tryz
open List (length_append)
set_option maxRecDepth 100000
open Go.RowKit
variable {d:Dk} {B N T pd:Nat}
def Zoq:Rec:=⟨0,0,0,⟨1,1,0⟩,0⟩
def Zor (kind:Int):Sto:=⟨⟨0,[],[]⟩,[Zn kind],Zn kind,0,0,false⟩
theorem ZcW (room kind:Int):Zew (ZgP room) kind=Zor kind:=by
 have c:Jm (ZgP room) kind=ZaE:=rfl;have d:Yi (ZgP room) kind=[Zn kind]:=rfl;have a:Gp [Zn kind]=Zn kind:=rfl;unfold Zew;rw[c,d,a]
 have b:ZaE.behind (Zn kind)=(⟨0,[],[]⟩,Zn kind):=by
  unfold Lgb.behind;rw[zaa (fun h=>h.1 rfl)]
  rfl
 rw[b];rfl
theorem Zrk {l:List Rec} (h:Yc l):(X9 l).length<=20+60*l.length:=by
 obtain⟨c,g,a,e⟩:=h;have b:=ZfT l [] (fun r b=>by cases b) a
 unfold X9;rw[length_append,length_append]
 have d:Qz (l.headD Qi):=by
  match l,c with
  | r::t,_=>exact a r zbi
 have f:(Lib.uvarint (l.headD Qi).idx.toNat).length<=10:=Gh (by have:=d.2.2.1;omega)
 have i:(Lib.uvarint l.length).length<=10:=Gh (by omega)
 omega
theorem Zzl:Yc [Zoq]:=by decide
def ZdA:List UInt8:=Jv (Zor 0) [Zoq]
theorem Ztw:ZdA.length<=10000:=by
 have e:ZdA=Qd (Xq 3 0 0)++Qd (X9 [Zoq]):=rfl;rw[e,length_append,Q9,Q9];have c:(Xq 3 0 0).length=4:=by simp[Xq,Zxu]
 have d:(X9 [Zoq]).length<=80:=Zrk Zzl;have a:=Zzy (n:=(Xq 3 0 0).length) (by omega)
 have b:=Zzy (n:=(X9 [Zoq]).length) (by omega)
 omega
def Zwg (b:List UInt8):Dk:=⟨10000,[⟨b,0⟩],[],[.give 2 0],-1⟩
def ZzZ:Sto:=Y3 (Zor 0) 2 [Zoq]
def ZAa (b:List UInt8):Dk:=⟨10000,[⟨b,b.length⟩],[(2,0)],[],-1⟩
def sto2:Sto:=Ye { ZzZ with nw:=false }
theorem Zzm:X5 [Zoq] (Zor 0,ZgP 10000)=((ZzZ,Zwg ZdA),0):=by
 have g:Jr (Zor 0) (ZgP 10000)=2:=rfl;have a:=Ztw;have e:Jv (Zor 0) [Zoq]=ZdA:=rfl
 have f:Qy (ZgP 10000) 2 ZdA=(Zwg ZdA,0):=by
  generalize ZdA=b at a;unfold Qy
  rw[zaa (show(ZgP 10000).power≠0 by decide),zaa (by decide),zaa (by
   show ¬ (((Jb (ZgP 10000):Nat):Int)+(b.length:Int)>10000);have d:Jb (ZgP 10000)=0:=rfl;rw[d]
   omega)]
  rfl
 have c:([Zoq].headD Qi).idx=(Zor 0).next:=rfl;unfold X5;rw[zaa (fun h=>h Zzl),zaa (fun h=>h c),g,e,f,zab rfl]
 rfl
theorem ZAx (b:List UInt8):Q5 (ZzZ,Zwg b)=((sto2,ZAa b),0):=rfl
theorem hpeD (w:World) (p:Nat):(binOp .eql 26 (ptr p) (.pointer none)).run prog w=.ok (.bool false) w:=by kernel_rfl
theorem hpnD (w:World) (p:Nat):(binOp .neq 26 (ptr p) (.pointer none)).run prog w=.ok (.bool true) w:=by kernel_rfl
theorem ZAy (w:World) (p:Nat):(binOp .eql 28 (ptr p) (.pointer none)).run prog w=.ok (.bool false) w:=by kernel_rfl
theorem Bnd.sz (h:Bnd d N T):SzD d N T:=⟨h.files,h.bytes⟩
theorem Zwh (kind:Int) (w:World) (h:ZyK B w pd d N T) (l:B<=w.heap.size) (c:N<=900) (f:T<=90000) (i:N*T<=9000000):
 Calls prog 13 #[ptr pd,.int .i64 kind] w fun e w'=>Zwf (fun k=>k<B) w pd d kind N T e w':=by
 obtain⟨n,b⟩:=h.ok;obtain⟨F,j,g⟩:=h;exact Zrj kind w j (fun k a m=>by have:=g k a;omega) (fun k a=>by omega) (by omega) (by omega) b.sz c f i
theorem Zos {w w':World} (h:Ql (fun k=>¬ k<B) w w') (a:B<=w.heap.size):Below B w w':=h.below a (fun k b=>by omega)
theorem Zrl (kind:Int) (w:World) (h:ZyK B w pd d N T) (b:B<=w.heap.size) (c:N<=900) (f:T<=90000) (l:N*T<=9000000) (g:ZfB d kind=0):
 Calls prog 13 #[ptr pd,.int .i64 kind] w fun e w'=>∃ p,e=.returned (.tuple #[ptr p,.int .i64 0])∧SD (fun k=>k<B) w' pd p (Zew d kind) d N T∧Below w.heap.size w w':=
 (Zwh kind w h b c f l).mono fun e w' i=>by
  rcases i with ⟨n,-⟩ | ⟨-,p,j,a,m⟩
  ·exact absurd g n
  ·exact⟨p,j,a,m⟩
theorem ZxR (W:World):RdR (W.alloc (.cells #[.int .i64 0,.int .i64 0,.int .i64 0,.int .i64 1,.int .i64 1,.int .i64 0,.int .i64 0] 62)) (.slice (some ⟨W.heap.size,0,none⟩) 1 1) [Zoq]:=by
 have b:=zgg (base:=0) (e:=62) W (Ja Zoq) 1 (zai _) (by unfold maxLen;omega) (size:=7) rfl
 have a:Xj (W.alloc (.cells (Ja Zoq) 62)) 0 (.slice (some ⟨W.heap.size,0,none⟩) 1 1) [Zoq]:=by
  unfold Xj;have e:Qt [Zoq]=(Ja Zoq).toList:=by simp[Qt]
  rw[e];exact b
 exact a.rd (fun r c=>by
  rw[zaq.1 c]
  exact ZaQ (Zzl.2.2.1 Zoq (by simp)))
set_option maxHeartbeats 4000000 in
theorem Ztx (w:World):Calls prog 7 #[] w fun e w'=>e=.returned (.bool true)∧Below w.heap.size w w':=by
 obtain⟨B,Z⟩:=zgy w.heap.size;have Y:B<=w.heap.size:=by omega
 rw[<-Z];have S:=ZZ (ZqP B 10000 ⟨by decide,by decide⟩ w Y)
 have ay:=hpeD;have ax:=ZAy;clear Z
 go_enter func7,ntmps7
 go_wp2_with fail
 refine S.o.mono ?_;rintro e W1 ⟨pd,rfl,ac,N⟩;have ak:=ZZ N;have x:B<=W1.heap.size:=zas Y N.size;have A:=ZZ (Zrl 0 W1 ac x (by decide) (by decide) (by decide) rfl)
 rw[ZcW] at A;clear ac N S
 go_wp2_with fail
 refine A.o.mono ?_;rintro e a ⟨p,rfl,ai,J⟩;have ag:=ZZ ai;have O:=ZZ (ak.o.trans (J.mono x));have ar:B<=a.heap.size:=zas x J.size;clear ai J A ak x;obtain⟨c,m⟩:=zgy (a.alloc (.cells #[.int .i64 0,.int .i64 0,.int .i64 0,.int .i64 1,.int .i64 1,.int .i64 0,.int .i64 0] 62));have al:c.heap.size=a.heap.size+1:=by rw[m];simp
 have H:Hid (Below a.heap.size a c):=ZZ (by rw[m];exact Jw _ _)
 have R:Hid (Calls prog 22 #[ptr p,.slice (some ⟨a.heap.size,0,none⟩) 1 1] c fun e w'=>Jz (fun k=>k<B∨(a.heap.size<=k∧k<c.heap.size)) c pd p ((ZzZ,Zwg ZdA),0) 2 30000 e w'):=ZZ (by
  have f:=ZiL (.slice (some ⟨a.heap.size,0,none⟩) 1 1) [Zoq] c (ag.o.fresh H.o) (fun k hk=>by
   rcases hk with hk | hk
   ·omega
   ·exact hk.2) (by have:=Zfe (d:=ZgP 10000) (kind:=0) (by decide) (by decide);rw[ZcW] at this;exact this) (by rw[m];exact ZxR a) (.inr fun k hk=>by
   have e:a.heap.size=k:=zak hk
   exact .inr (by omega)) (by decide) (by decide) (by decide) (by decide)
  rw[Zzm] at f
  exact f)
 have Q:=ZZ m;clear m ag
 go_wp2_with fail
 rw[<-Q.o];refine R.o.mono ?_;rintro e t ⟨rfl,T,G⟩;have af:Hid (SD (fun k=>k<B) t pd p ZzZ (Zwg ZdA) 2 30000):=ZZ (T.less (fun k hk=>.inl hk))
 have ad:Hid (Below B w t):=ZZ ((O.o.trans (H.o.mono ar)).trans (Zos (G.mono (fun k hk K=>hk (.inl K))) (by omega)))
 have aj:B<=t.heap.size:=by have:=G.size;omega
 clear T G R Q H O al;have D:=ZZ (ZeO t af.o (fun k hk=>by omega) ⟨by decide,by decide,⟨by decide,by decide⟩,⟨by decide,by decide⟩⟩)
 rw[ZAx] at D
 go_wp2_with fail
 refine D.o.mono ?_;rintro e b ⟨rfl,P,z⟩;have E:Hid (SD (fun k=>k<B) b pd p sto2 (ZAa ZdA) 6 30000):=ZZ P
 have W:Hid (Below B w b):=ZZ (ad.o.trans (Zos z aj));have U:B<=b.heap.size:=zas aj z.size;clear P z D af ad
 have ae:Hid (Calls prog 28 #[ptr pd] b fun e w'=>∃ v,e=.returned v∧Qs w' b.heap.size v [2]∧Below b.heap.size b w'):=ZZ (by
  obtain⟨F,M,I,L,f,h2,h3,-⟩:=E.o
  exact Zsi (B:=B) b ⟨F,f,fun k hk=>by have:=h3 k hk;omega⟩ (by decide))
 go_wp2_with fail
 refine ae.o.mono ?_;rintro e g ⟨v6,rfl,aa,u⟩;have C:=ZZ (E.o.below u);have ab:=ZZ (W.o.trans (u.mono U));have an:B<=g.heap.size:=zas U u.size;obtain⟨ao,cap,V,-,-,-,-,i⟩:=aa.rd (fun n K=>by rw[zaq.1 K];exact⟨by decide,by decide⟩)
 rcases i with i | ⟨l,q,au,i⟩
 ·cases i
 have ap:=ZZ (i 0 (by decide))
 subst au;have av:Hid (v6=.slice (some ⟨l,q,none⟩) 1 cap):=ZZ V;have X:Hid (Calls prog 14 #[ptr p] g fun e w'=>e=.returned (.int .i64 1)∧Below g.heap.size g w'):=ZZ (C.o.next ⟨by decide,by decide,⟨by decide,by decide⟩,⟨by decide,by decide⟩⟩)
 rw[av.o];clear i V aa u ae E W
 go_wp2_with fail
 refine X.o.mono ?_;rintro e j ⟨rfl,y⟩
 have aq:Hid (Calls prog 11 #[ptr p] j fun e w'=>e=.returned (.int .i64 1)∧w'=j):=ZZ (by
  obtain⟨F,M,I,L,f,h2,-⟩:=C.o.below y
  exact Ziu j h2)
 have c7:j.cell? ⟨l,q+0,none⟩=some (.int .i64 2):=by
  have f:g.cell? ⟨l,q+0,none⟩=some (.int .i64 2):=ap.o;rw[y.cell (p:=⟨l,q+0,none⟩) (zau g _ f)];exact f
 have aw:j.cell? ⟨l,q,none⟩=some (.int .i64 2):=c7;have am:=ZZ (ab.o.trans (y.mono an));clear y X C ab c7
 go_wp2_with fail
 refine aq.o.mono ?_;rintro e W8 ⟨rfl,rfl⟩;go_wp2;go_ret;exact⟨by first | rfl | simp,am.o⟩
end Go.Proofs.YtnahjngbneicaaaGreatDoor
