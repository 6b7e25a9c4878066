import Derived.Test.YtnahjngbneicaaaGreatDoorStoreY
import Derived.Test.YtnahjngbneicaaaGreatDoorOpenStore
namespace Go.Proofs.YtnahjngbneicaaaGreatDoor
open _root_.Go.Proofs.Tryz
open List (length_append)
set_option maxRecDepth 100000
open Go.RowKit
variable {d:Dk} {B N T pd:Nat}
def Zoq:Rec:=⟨0,0,0,⟨1,1,0⟩,0⟩
def Zor (kind:Int):Sto:=⟨⟨0,[],[]⟩,[Zn kind],Zn kind,0,0,false⟩
theorem ZcW (room kind:Int):Zew (ZgP room) kind=Zor kind:=by
 have b:Jm (ZgP room) kind=ZaE:=rfl;have d:Yi (ZgP room) kind=[Zn kind]:=rfl;have c:Gp [Zn kind]=Zn kind:=rfl;unfold Zew;rw[b,d,c]
 have a:ZaE.behind (Zn kind)=(⟨0,[],[]⟩,Zn kind):=by
  unfold Lgb.behind;rw[if_neg (fun h=>h.1 rfl)]
  rfl
 rw[a];rfl
theorem Zrk {l:List Rec} (h:Yc l):(X9 l).length<=20+60*l.length:=by
 obtain⟨c,i,b,e⟩:=h;have a:=ZfT l [] (fun r a=>by cases a) b
 unfold X9;rw[length_append,length_append]
 have d:Qz (l.headD Qi):=by
  match l,c with
  | r::t,_=>exact b r List.mem_cons_self
 have f:(Lib.uvarint (l.headD Qi).idx.toNat).length<=10:=Gh (by have:=d.2.2.1;omega)
 have g:(Lib.uvarint l.length).length<=10:=Gh (by omega)
 omega
theorem Zzl:Yc [Zoq]:=by decide
def ZdA:List UInt8:=Jv (Zor 0) [Zoq]
theorem Ztw:ZdA.length<=10000:=by
 have e:ZdA=Qd (Xq 3 0 0)++Qd (X9 [Zoq]):=rfl;rw[e,length_append,Q9,Q9];have b:(Xq 3 0 0).length=4:=by simp[Xq,Zxu]
 have d:(X9 [Zoq]).length<=80:=Zrk Zzl;have c:=Zzy (n:=(Xq 3 0 0).length) (by omega)
 have a:=Zzy (n:=(X9 [Zoq]).length) (by omega)
 omega
def Zwg (b:List UInt8):Dk:=⟨10000,[⟨b,0⟩],[],[.give 2 0],-1⟩
def ZzZ:Sto:=Y3 (Zor 0) 2 [Zoq]
def ZAa (b:List UInt8):Dk:=⟨10000,[⟨b,b.length⟩],[(2,0)],[],-1⟩
def sto2:Sto:=Ye { ZzZ with nw:=false }
theorem Zzm:X5 [Zoq] (Zor 0,ZgP 10000)=((ZzZ,Zwg ZdA),0):=by
 have e:Jr (Zor 0) (ZgP 10000)=2:=rfl;have a:=Ztw;have c:Jv (Zor 0) [Zoq]=ZdA:=rfl
 have g:Qy (ZgP 10000) 2 ZdA=(Zwg ZdA,0):=by
  generalize ZdA=b at a;unfold Qy
  rw[if_neg (show(ZgP 10000).power≠0 by decide),if_neg (by decide),if_neg (by
   show ¬ (((Jb (ZgP 10000):Nat):Int)+(b.length:Int)>10000);have f:Jb (ZgP 10000)=0:=rfl;rw[f]
   omega)]
  rfl
 have d:([Zoq].headD Qi).idx=(Zor 0).next:=rfl;unfold X5;rw[if_neg (fun h=>h Zzl),if_neg (fun h=>h d),e,c,g,if_pos rfl]
 rfl
theorem ZAx (b:List UInt8):Q5 (ZzZ,Zwg b)=((sto2,ZAa b),0):=rfl
theorem hpeD (w:World) (p:Nat):(binOp .eql 26 (ptr p) (.pointer none)).run prog w=.ok (.bool false) w:=by kernel_rfl
theorem hpnD (w:World) (p:Nat):(binOp .neq 26 (ptr p) (.pointer none)).run prog w=.ok (.bool true) w:=by kernel_rfl
theorem ZAy (w:World) (p:Nat):(binOp .eql 28 (ptr p) (.pointer none)).run prog w=.ok (.bool false) w:=by kernel_rfl
theorem Bnd.sz (h:Bnd d N T):SzD d N T:=⟨h.files,h.bytes⟩
theorem Zwh (kind:Int) (w:World) (h:ZyK B w pd d N T) (m:B<=w.heap.size) (c:N<=900) (i:T<=90000) (g:N*T<=9000000):
 Calls prog 13 #[ptr pd,.int .i64 kind] w fun e w'=>Zwf (fun k=>k<B) w pd d kind N T e w':=by
 obtain⟨l,f⟩:=h.ok;obtain⟨F,j,b⟩:=h;exact Zrj kind w j (fun k a n=>by have:=b k a;omega) (fun k a=>by omega) (by omega) (by omega) f.sz c i g
theorem Zos {w w':World} (h:Ql (fun k=>¬ k<B) w w') (a:B<=w.heap.size):Below B w w':=h.below a (fun k b=>by omega)
theorem Zrl (kind:Int) (w:World) (h:ZyK B w pd d N T) (l:B<=w.heap.size) (f:N<=900) (j:T<=90000) (g:N*T<=9000000) (i:ZfB d kind=0):
 Calls prog 13 #[ptr pd,.int .i64 kind] w fun e w'=>∃ p,e=.returned (.tuple #[ptr p,.int .i64 0])∧SD (fun k=>k<B) w' pd p (Zew d kind) d N T∧Below w.heap.size w w':=
 (Zwh kind w h l f j g).mono fun e w' n=>by
  rcases n with ⟨m,-⟩ | ⟨-,p,b,c,a⟩
  ·exact absurd i m
  ·exact⟨p,b,c,a⟩
theorem ZxR (W:World):RdR (W.alloc (.cells #[.int .i64 0,.int .i64 0,.int .i64 0,.int .i64 1,.int .i64 1,.int .i64 0,.int .i64 0] 62)) (.slice (some ⟨W.heap.size,0,none⟩) 1 1) [Zoq]:=by
 have b:=World.ownsRow_lit (base:=0) (e:=62) W (Ja Zoq) 1 (Nat.zero_le _) (by unfold maxLen;omega) (size:=7) rfl
 have c:Xj (W.alloc (.cells (Ja Zoq) 62)) 0 (.slice (some ⟨W.heap.size,0,none⟩) 1 1) [Zoq]:=by
  unfold Xj;have e:Qt [Zoq]=(Ja Zoq).toList:=by simp[Qt]
  rw[e];exact b
 exact c.rd (fun r a=>by
  rw[List.mem_singleton.1 a]
  exact ZaQ (Zzl.2.2.1 Zoq (by simp)))
set_option maxHeartbeats 4000000 in
theorem Ztx (w:World):Calls prog 7 #[] w fun e w'=>e=.returned (.bool true)∧Below w.heap.size w w':=by
 obtain⟨B,hB⟩:∃ B,B=w.heap.size:=⟨_,rfl⟩;have Q:B<=w.heap.size:=by omega
 rw[<-hB];have R:=ZZ (ZqP B 10000 ⟨by decide,by decide⟩ w Q)
 have ax:=hpeD;have ay:=ZAy;clear hB
 go_enter func7,ntmps7
 go_wp2_with fail
 refine R.o.mono ?_;rintro e W ⟨pd,rfl,ai,K⟩;have O:=ZZ K;have t:B<=W.heap.size:=Nat.le_trans Q K.size;have E:=ZZ (Zrl 0 W ai t (by decide) (by decide) (by decide) rfl)
 rw[ZcW] at E;clear ai K R
 go_wp2_with fail
 refine E.o.mono ?_;rintro e a ⟨p,rfl,ag,G⟩;have V:=ZZ ag;have ab:=ZZ (O.o.trans (G.mono t));have av:B<=a.heap.size:=Nat.le_trans t G.size;clear ag G E O t;obtain⟨b,j⟩:∃ b,b=a.alloc (.cells #[.int .i64 0,.int .i64 0,.int .i64 0,.int .i64 1,.int .i64 1,.int .i64 0,.int .i64 0] 62):=⟨_,rfl⟩;have an:b.heap.size=a.heap.size+1:=by rw[j];simp
 have D:Hid (Below a.heap.size a b):=ZZ (by rw[j];exact Jw _ _)
 have af:Hid (Calls prog 22 #[ptr p,.slice (some ⟨a.heap.size,0,none⟩) 1 1] b fun e w'=>Jz (fun k=>k<B∨(a.heap.size<=k∧k<b.heap.size)) b pd p ((ZzZ,Zwg ZdA),0) 2 30000 e w'):=ZZ (by
  have c:=ZiL (.slice (some ⟨a.heap.size,0,none⟩) 1 1) [Zoq] b (V.o.fresh D.o) (fun k hk=>by
   rcases hk with hk | hk
   ·omega
   ·exact hk.2) (by have:=Zfe (d:=ZgP 10000) (kind:=0) (by decide) (by decide);rw[ZcW] at this;exact this) (by rw[j];exact ZxR a) (.inr fun k hk=>by
   have e:a.heap.size=k:=Option.some.inj hk
   exact .inr (by omega)) (by decide) (by decide) (by decide) (by decide)
  rw[Zzm] at c
  exact c)
 have Z:=ZZ j;clear j V
 go_wp2_with fail
 rw[<-Z.o];refine af.o.mono ?_;rintro e x ⟨rfl,Y,C⟩;have S:Hid (SD (fun k=>k<B) x pd p ZzZ (Zwg ZdA) 2 30000):=ZZ (Y.less (fun k hk=>.inl hk))
 have ae:Hid (Below B w x):=ZZ ((ab.o.trans (D.o.mono av)).trans (Zos (C.mono (fun k hk J=>hk (.inl J))) (by omega)))
 have X:B<=x.heap.size:=by have:=C.size;omega
 clear Y C af Z D ab an;have N:=ZZ (ZeO x S.o (fun k hk=>by omega) ⟨by decide,by decide,⟨by decide,by decide⟩,⟨by decide,by decide⟩⟩)
 rw[ZAx] at N
 go_wp2_with fail
 refine N.o.mono ?_;rintro e f ⟨rfl,ac,A⟩;have z:Hid (SD (fun k=>k<B) f pd p sto2 (ZAa ZdA) 6 30000):=ZZ ac
 have ad:Hid (Below B w f):=ZZ (ae.o.trans (Zos A X));have ak:B<=f.heap.size:=Nat.le_trans X A.size;clear ac A N S ae
 have aj:Hid (Calls prog 28 #[ptr pd] f fun e w'=>∃ v,e=.returned v∧Qs w' f.heap.size v [2]∧Below f.heap.size f w'):=ZZ (by
  obtain⟨F,M,I,L,c,h2,h3,-⟩:=z.o
  exact Zsi (B:=B) f ⟨F,c,fun k hk=>by have:=h3 k hk;omega⟩ (by decide))
 go_wp2_with fail
 refine aj.o.mono ?_;rintro e i ⟨v6,rfl,P,u⟩;have H:=ZZ (z.o.below u);have al:=ZZ (ad.o.trans (u.mono ak));have ar:B<=i.heap.size:=Nat.le_trans ak u.size;obtain⟨ao,cap,U,-,-,-,-,g⟩:=P.rd (fun n J=>by rw[List.mem_singleton.1 J];exact⟨by decide,by decide⟩)
 rcases g with g | ⟨q,m,au,g⟩
 ·cases g
 have aq:=ZZ (g 0 (by decide))
 subst au;have ap:Hid (v6=.slice (some ⟨q,m,none⟩) 1 cap):=ZZ U;have aa:Hid (Calls prog 14 #[ptr p] i fun e w'=>e=.returned (.int .i64 1)∧Below i.heap.size i w'):=ZZ (H.o.next ⟨by decide,by decide,⟨by decide,by decide⟩,⟨by decide,by decide⟩⟩)
 rw[ap.o];clear g U P u aj z ad
 go_wp2_with fail
 refine aa.o.mono ?_;rintro e l ⟨rfl,y⟩
 have am:Hid (Calls prog 11 #[ptr p] l fun e w'=>e=.returned (.int .i64 1)∧w'=l):=ZZ (by
  obtain⟨F,M,I,L,c,h2,-⟩:=H.o.below y
  exact Ziu l h2)
 have T:l.cell? ⟨q,m+0,none⟩=some (.int .i64 2):=by
  have c:i.cell? ⟨q,m+0,none⟩=some (.int .i64 2):=aq.o;rw[y.cell (p:=⟨q,m+0,none⟩) (World.block_lt_of_cell? i _ c)];exact c
 have az:l.cell? ⟨q,m,none⟩=some (.int .i64 2):=T;have aw:=ZZ (al.o.trans (y.mono ar));clear y aa H al T
 go_wp2_with fail
 refine am.o.mono ?_;rintro e W8 ⟨rfl,rfl⟩;go_wp2;go_ret;exact⟨by first | rfl | simp,aw.o⟩
end Go.Proofs.YtnahjngbneicaaaGreatDoor
