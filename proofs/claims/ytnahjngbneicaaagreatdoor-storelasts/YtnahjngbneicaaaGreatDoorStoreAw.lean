import Derived.Test.YtnahjngbneicaaaGreatDoorStoreY
import Derived.Test.YtnahjngbneicaaaGreatDoorOpenStore
namespace Go.Proofs.YtnahjngbneicaaaGreatDoor
open _root_.Go.Proofs.Tryz
open List (length_append)
set_option maxRecDepth 100000
open Go.RowKit
variable {d:Dk} {B N T pd:Nat}
def Zoq:Rec:=⟨0,0,0,⟨1,1,0⟩,0⟩
def Zor (kind:Int):Sto:=⟨⟨0,[],[]⟩,[Zn kind],Zn kind,0,0,false⟩
theorem ZcW (room kind:Int):Zew (ZgP room) kind=Zor kind:=by
 have d:Jm (ZgP room) kind=ZaE:=rfl;have a:Yi (ZgP room) kind=[Zn kind]:=rfl;have b:Gp [Zn kind]=Zn kind:=rfl;unfold Zew;rw[d,a,b]
 have c:ZaE.behind (Zn kind)=(⟨0,[],[]⟩,Zn kind):=by
  unfold Lgb.behind;rw[if_neg (fun h=>h.1 rfl)]
  rfl
 rw[c];rfl
theorem Zrk {l:List Rec} (h:Yc l):(X9 l).length<=20+60*l.length:=by
 obtain⟨d,f,a,i⟩:=h;have b:=ZfT l [] (fun r b=>by cases b) a
 unfold X9;rw[length_append,length_append]
 have c:Qz (l.headD Qi):=by
  match l,d with
  | r::t,_=>exact a r List.mem_cons_self
 have e:(Lib.uvarint (l.headD Qi).idx.toNat).length<=10:=Gh (by have:=c.2.2.1;omega)
 have g:(Lib.uvarint l.length).length<=10:=Gh (by omega)
 omega
theorem Zzl:Yc [Zoq]:=by decide
def ZdA:List UInt8:=Jv (Zor 0) [Zoq]
theorem Ztw:ZdA.length<=10000:=by
 have e:ZdA=Qd (Xq 3 0 0)++Qd (X9 [Zoq]):=rfl;rw[e,length_append,Q9,Q9];have d:(Xq 3 0 0).length=4:=by simp[Xq,Zxu]
 have a:(X9 [Zoq]).length<=80:=Zrk Zzl;have b:=Zzy (n:=(Xq 3 0 0).length) (by omega)
 have c:=Zzy (n:=(X9 [Zoq]).length) (by omega)
 omega
def Zwg (b:List UInt8):Dk:=⟨10000,[⟨b,0⟩],[],[.give 2 0],-1⟩
def ZzZ:Sto:=Y3 (Zor 0) 2 [Zoq]
def ZAa (b:List UInt8):Dk:=⟨10000,[⟨b,b.length⟩],[(2,0)],[],-1⟩
def sto2:Sto:=Ye { ZzZ with nw:=false }
theorem Zzm:X5 [Zoq] (Zor 0,ZgP 10000)=((ZzZ,Zwg ZdA),0):=by
 have a:Jr (Zor 0) (ZgP 10000)=2:=rfl;have e:=Ztw;have d:Jv (Zor 0) [Zoq]=ZdA:=rfl
 have f:Qy (ZgP 10000) 2 ZdA=(Zwg ZdA,0):=by
  generalize ZdA=b at e;unfold Qy
  rw[if_neg (show(ZgP 10000).power≠0 by decide),if_neg (by decide),if_neg (by
   show ¬ (((Jb (ZgP 10000):Nat):Int)+(b.length:Int)>10000);have g:Jb (ZgP 10000)=0:=rfl;rw[g]
   omega)]
  rfl
 have c:([Zoq].headD Qi).idx=(Zor 0).next:=rfl;unfold X5;rw[if_neg (fun h=>h Zzl),if_neg (fun h=>h c),a,d,f,if_pos rfl]
 rfl
theorem ZAx (b:List UInt8):Q5 (ZzZ,Zwg b)=((sto2,ZAa b),0):=rfl
theorem hpeD (w:World) (p:Nat):(binOp .eql 26 (ptr p) (.pointer none)).run prog w=.ok (.bool false) w:=by kernel_rfl
theorem hpnD (w:World) (p:Nat):(binOp .neq 26 (ptr p) (.pointer none)).run prog w=.ok (.bool true) w:=by kernel_rfl
theorem ZAy (w:World) (p:Nat):(binOp .eql 28 (ptr p) (.pointer none)).run prog w=.ok (.bool false) w:=by kernel_rfl
theorem Bnd.sz (h:Bnd d N T):SzD d N T:=⟨h.files,h.bytes⟩
theorem Zwh (kind:Int) (w:World) (h:ZyK B w pd d N T) (m:B<=w.heap.size) (g:N<=900) (i:T<=90000) (f:N*T<=9000000):
 Calls prog 13 #[ptr pd,.int .i64 kind] w fun e w'=>Zwf (fun k=>k<B) w pd d kind N T e w':=by
 obtain⟨n,b⟩:=h.ok;obtain⟨F,j,c⟩:=h;exact Zrj kind w j (fun k a l=>by have:=c k a;omega) (fun k a=>by omega) (by omega) (by omega) b.sz g i f
theorem Zos {w w':World} (h:Ql (fun k=>¬ k<B) w w') (a:B<=w.heap.size):Below B w w':=h.below a (fun k b=>by omega)
theorem Zrl (kind:Int) (w:World) (h:ZyK B w pd d N T) (i:B<=w.heap.size) (l:N<=900) (m:T<=90000) (j:N*T<=9000000) (f:ZfB d kind=0):
 Calls prog 13 #[ptr pd,.int .i64 kind] w fun e w'=>∃ p,e=.returned (.tuple #[ptr p,.int .i64 0])∧SD (fun k=>k<B) w' pd p (Zew d kind) d N T∧Below w.heap.size w w':=
 (Zwh kind w h i l m j).mono fun e w' a=>by
  rcases a with ⟨n,-⟩ | ⟨-,p,b,c,g⟩
  ·exact absurd f n
  ·exact⟨p,b,c,g⟩
theorem ZxR (W:World):RdR (W.alloc (.cells #[.int .i64 0,.int .i64 0,.int .i64 0,.int .i64 1,.int .i64 1,.int .i64 0,.int .i64 0] 62)) (.slice (some ⟨W.heap.size,0,none⟩) 1 1) [Zoq]:=by
 have a:=World.ownsRow_lit (base:=0) (e:=62) W (Ja Zoq) 1 (Nat.zero_le _) (by unfold maxLen;omega) (size:=7) rfl
 have b:Xj (W.alloc (.cells (Ja Zoq) 62)) 0 (.slice (some ⟨W.heap.size,0,none⟩) 1 1) [Zoq]:=by
  unfold Xj;have e:Qt [Zoq]=(Ja Zoq).toList:=by simp[Qt]
  rw[e];exact a
 exact b.rd (fun r c=>by
  rw[List.mem_singleton.1 c]
  exact ZaQ (Zzl.2.2.1 Zoq (by simp)))
set_option maxHeartbeats 4000000 in
theorem Ztx (w:World):Calls prog 7 #[] w fun e w'=>e=.returned (.bool true)∧Below w.heap.size w w':=by
 obtain⟨B,W⟩:∃ B,B=w.heap.size:=⟨_,rfl⟩;have O:B<=w.heap.size:=by omega
 rw[<-W];have T:=ZZ (ZqP B 10000 ⟨by decide,by decide⟩ w O)
 have ay:=hpeD;have ax:=ZAy;clear W
 go_enter func7,ntmps7
 go_wp2_with fail
 refine T.o.mono ?_;rintro e V ⟨pd,rfl,Q,A⟩;have ac:=ZZ A;have t:B<=V.heap.size:=Nat.le_trans O A.size;have J:=ZZ (Zrl 0 V Q t (by decide) (by decide) (by decide) rfl)
 rw[ZcW] at J;clear Q A T
 go_wp2_with fail
 refine J.o.mono ?_;rintro e a ⟨p,rfl,af,y⟩;have ag:=ZZ af;have S:=ZZ (ac.o.trans (y.mono t));have al:B<=a.heap.size:=Nat.le_trans t y.size;clear af y J ac t;obtain⟨c,j⟩:∃ c,c=a.alloc (.cells #[.int .i64 0,.int .i64 0,.int .i64 0,.int .i64 1,.int .i64 1,.int .i64 0,.int .i64 0] 62):=⟨_,rfl⟩;have ar:c.heap.size=a.heap.size+1:=by rw[j];simp
 have E:Hid (Below a.heap.size a c):=ZZ (by rw[j];exact Jw _ _)
 have aa:Hid (Calls prog 22 #[ptr p,.slice (some ⟨a.heap.size,0,none⟩) 1 1] c fun e w'=>Jz (fun k=>k<B∨(a.heap.size<=k∧k<c.heap.size)) c pd p ((ZzZ,Zwg ZdA),0) 2 30000 e w'):=ZZ (by
  have b:=ZiL (.slice (some ⟨a.heap.size,0,none⟩) 1 1) [Zoq] c (ag.o.fresh E.o) (fun k hk=>by
   rcases hk with hk | hk
   ·omega
   ·exact hk.2) (by have:=Zfe (d:=ZgP 10000) (kind:=0) (by decide) (by decide);rw[ZcW] at this;exact this) (by rw[j];exact ZxR a) (.inr fun k hk=>by
   have e:a.heap.size=k:=Option.some.inj hk
   exact .inr (by omega)) (by decide) (by decide) (by decide) (by decide)
  rw[Zzm] at b
  exact b)
 have P:=ZZ j;clear j ag
 go_wp2_with fail
 rw[<-P.o];refine aa.o.mono ?_;rintro e u ⟨rfl,ai,G⟩;have ah:Hid (SD (fun k=>k<B) u pd p ZzZ (Zwg ZdA) 2 30000):=ZZ (ai.less (fun k hk=>.inl hk))
 have ak:Hid (Below B w u):=ZZ ((S.o.trans (E.o.mono al)).trans (Zos (G.mono (fun k hk K=>hk (.inl K))) (by omega)))
 have U:B<=u.heap.size:=by have:=G.size;omega
 clear ai G aa P E S ar;have H:=ZZ (ZeO u ah.o (fun k hk=>by omega) ⟨by decide,by decide,⟨by decide,by decide⟩,⟨by decide,by decide⟩⟩)
 rw[ZAx] at H
 go_wp2_with fail
 refine H.o.mono ?_;rintro e f ⟨rfl,N,D⟩;have z:Hid (SD (fun k=>k<B) f pd p sto2 (ZAa ZdA) 6 30000):=ZZ N
 have Y:Hid (Below B w f):=ZZ (ak.o.trans (Zos D U));have ae:B<=f.heap.size:=Nat.le_trans U D.size;clear N D H ah ak
 have ab:Hid (Calls prog 28 #[ptr pd] f fun e w'=>∃ v,e=.returned v∧Qs w' f.heap.size v [2]∧Below f.heap.size f w'):=ZZ (by
  obtain⟨F,M,I,L,b,h2,h3,-⟩:=z.o
  exact Zsi (B:=B) f ⟨F,b,fun k hk=>by have:=h3 k hk;omega⟩ (by decide))
 go_wp2_with fail
 refine ab.o.mono ?_;rintro e g ⟨v6,rfl,ad,x⟩;have C:=ZZ (z.o.below x);have aj:=ZZ (Y.o.trans (x.mono ae));have ap:B<=g.heap.size:=Nat.le_trans ae x.size;obtain⟨ao,cap,Z,-,-,-,-,h⟩:=ad.rd (fun n K=>by rw[List.mem_singleton.1 K];exact⟨by decide,by decide⟩)
 rcases h with h | ⟨l,m,an,h⟩
 ·cases h
 have av:=ZZ (h 0 (by decide))
 subst an;have am:Hid (v6=.slice (some ⟨l,m,none⟩) 1 cap):=ZZ Z;have R:Hid (Calls prog 14 #[ptr p] g fun e w'=>e=.returned (.int .i64 1)∧Below g.heap.size g w'):=ZZ (C.o.next ⟨by decide,by decide,⟨by decide,by decide⟩,⟨by decide,by decide⟩⟩)
 rw[am.o];clear h Z ad x ab z Y
 go_wp2_with fail
 refine R.o.mono ?_;rintro e i ⟨rfl,q⟩
 have au:Hid (Calls prog 11 #[ptr p] i fun e w'=>e=.returned (.int .i64 1)∧w'=i):=ZZ (by
  obtain⟨F,M,I,L,b,h2,-⟩:=C.o.below q
  exact Ziu i h2)
 have X:i.cell? ⟨l,m+0,none⟩=some (.int .i64 2):=by
  have b:g.cell? ⟨l,m+0,none⟩=some (.int .i64 2):=av.o;rw[q.cell (p:=⟨l,m+0,none⟩) (World.block_lt_of_cell? g _ b)];exact b
 have aw:i.cell? ⟨l,m,none⟩=some (.int .i64 2):=X;have aq:=ZZ (aj.o.trans (q.mono ap));clear q R C aj X
 go_wp2_with fail
 refine au.o.mono ?_;rintro e W8 ⟨rfl,rfl⟩;go_wp2;go_ret;exact⟨by first | rfl | simp,aq.o⟩
end Go.Proofs.YtnahjngbneicaaaGreatDoor
