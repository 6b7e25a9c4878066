import Derived.Test.YtnahjngbneicaaaGreatDoorStoreY
import Derived.Test.YtnahjngbneicaaaGreatDoorOpenStore
namespace Go.Proofs.YtnahjngbneicaaaGreatDoor
open _root_.Go.Proofs.Tryz
open List (length_append)
set_option maxRecDepth 100000
open Go.RowKit
variable {d:Dk} {B N T pd:Nat}
def ZnC:Rec:=⟨0,0,0,⟨1,1,0⟩,0⟩
def Zqu (kind:Int):Sto:=⟨⟨0,[],[]⟩,[ZaC kind],ZaC kind,0,0,false⟩
theorem ZcV (room kind:Int):Zgn (ZiS room) kind=Zqu kind:=by
 have a:ZfS (ZiS room) kind=Zbv:=rfl;have b:Yd (ZiS room) kind=[ZaC kind]:=rfl;have d:ZaW [ZaC kind]=ZaC kind:=rfl;unfold Zgn;rw[a,b,d]
 have c:Zbv.behind (ZaC kind)=(⟨0,[],[]⟩,ZaC kind):=by
  unfold Lgb.behind;rw[if_neg (fun h=>h.1 rfl)]
  rfl
 rw[c];rfl
theorem Zqv {l:List Rec} (h:Yc l):(Y2 l).length<=20+60*l.length:=by
 obtain⟨d,e,a,i⟩:=h;have b:=ZfB l [] (fun r b=>by cases b) a
 unfold Y2;rw[length_append,length_append]
 have c:Qw (l.headD Qi):=by
  match l,d with
  | r::t,_=>exact a r List.mem_cons_self
 have g:(Lib.uvarint (l.headD Qi).idx.toNat).length<=10:=Ji (by have:=c.2.2.1;omega)
 have f:(Lib.uvarint l.length).length<=10:=Ji (by omega)
 omega
theorem ZxX:Yc [ZnC]:=by decide
def Zdw:List UInt8:=Zbl (Zqu 0) [ZnC]
theorem ZsB:Zdw.length<=10000:=by
 have e:Zdw=Qe (X6 3 0 0)++Qe (Y2 [ZnC]):=rfl;rw[e,length_append,Qz,Qz];have a:(X6 3 0 0).length=4:=by simp[X6,Zwo]
 have b:(Y2 [ZnC]).length<=80:=Zqv ZxX;have d:=Zyj (n:=(X6 3 0 0).length) (by omega)
 have c:=Zyj (n:=(Y2 [ZnC]).length) (by omega)
 omega
def Zve (b:List UInt8):Dk:=⟨10000,[⟨b,0⟩],[],[.give 2 0],-1⟩
def ZyM:Sto:=Z2 (Zqu 0) 2 [ZnC]
def ZyN (b:List UInt8):Dk:=⟨10000,[⟨b,b.length⟩],[(2,0)],[],-1⟩
def sto2:Sto:=Zbw { ZyM with nw:=false }
theorem ZxY:Yn [ZnC] (Zqu 0,ZiS 10000)=((ZyM,Zve Zdw),0):=by
 have f:Zcw (Zqu 0) (ZiS 10000)=2:=rfl;have a:=ZsB;have c:Zbl (Zqu 0) [ZnC]=Zdw:=rfl
 have d:Xe (ZiS 10000) 2 Zdw=(Zve Zdw,0):=by
  generalize Zdw=b at a;unfold Xe
  rw[if_neg (show(ZiS 10000).power≠0 by decide),if_neg (by decide),if_neg (by
   show ¬ (((Zj (ZiS 10000):Nat):Int)+(b.length:Int)>10000);have g:Zj (ZiS 10000)=0:=rfl;rw[g]
   omega)]
  rfl
 have e:([ZnC].headD Qi).idx=(Zqu 0).next:=rfl;unfold Yn;rw[if_neg (fun h=>h ZxX),if_neg (fun h=>h e),f,c,d,if_pos rfl]
 rfl
theorem Zzj (b:List UInt8):Zf (ZyM,Zve b)=((sto2,ZyN b),0):=rfl
theorem hpeD (w:World) (p:Nat):(binOp .eql 26 (ptr p) (.pointer none)).run prog w=.ok (.bool false) w:=by kernel_rfl
theorem hpnD (w:World) (p:Nat):(binOp .neq 26 (ptr p) (.pointer none)).run prog w=.ok (.bool true) w:=by kernel_rfl
theorem Zzk (w:World) (p:Nat):(binOp .eql 28 (ptr p) (.pointer none)).run prog w=.ok (.bool false) w:=by kernel_rfl
theorem Bnd.sz (h:Bnd d N T):SzD d N T:=⟨h.files,h.bytes⟩
theorem Zvf (kind:Int) (w:World) (h:Zxu B w pd d N T) (l:B<=w.heap.size) (i:N<=900) (b:T<=90000) (f:N*T<=9000000):
 Calls prog 13 #[ptr pd,.int .i64 kind] w fun e w'=>Zvd (fun k=>k<B) w pd d kind N T e w':=by
 obtain⟨n,c⟩:=h.ok;obtain⟨F,j,g⟩:=h;exact Zqt kind w j (fun k a m=>by have:=g k a;omega) (fun k a=>by omega) (by omega) (by omega) c.sz i b f
theorem ZnD {w w':World} (h:Qj (fun k=>¬ k<B) w w') (a:B<=w.heap.size):Below B w w':=h.below a (fun k b=>by omega)
theorem Zqw (kind:Int) (w:World) (h:Zxu B w pd d N T) (b:B<=w.heap.size) (n:N<=900) (f:T<=90000) (i:N*T<=9000000) (a:Zfk d kind=0):
 Calls prog 13 #[ptr pd,.int .i64 kind] w fun e w'=>∃ p,e=.returned (.tuple #[ptr p,.int .i64 0])∧SD (fun k=>k<B) w' pd p (Zgn d kind) d N T∧Below w.heap.size w w':=
 (Zvf kind w h b n f i).mono fun e w' l=>by
  rcases l with ⟨m,-⟩ | ⟨-,p,j,c,g⟩
  ·exact absurd a m
  ·exact⟨p,j,c,g⟩
theorem ZwK (W:World):RdR (W.alloc (.cells #[.int .i64 0,.int .i64 0,.int .i64 0,.int .i64 1,.int .i64 1,.int .i64 0,.int .i64 0] 62)) (.slice (some ⟨W.heap.size,0,none⟩) 1 1) [ZnC]:=by
 have c:=World.ownsRow_lit (base:=0) (e:=62) W (Zi ZnC) 1 (Nat.zero_le _) (by unfold maxLen;omega) (size:=7) rfl
 have b:Q9 (W.alloc (.cells (Zi ZnC) 62)) 0 (.slice (some ⟨W.heap.size,0,none⟩) 1 1) [ZnC]:=by
  unfold Q9;have e:Qq [ZnC]=(Zi ZnC).toList:=by simp[Qq]
  rw[e];exact c
 exact b.rd (fun r a=>by
  rw[List.mem_singleton.1 a]
  exact Zcl (ZxX.2.2.1 ZnC (by simp)))
set_option maxHeartbeats 4000000 in
theorem ZsC (w:World):Calls prog 7 #[] w fun e w'=>e=.returned (.bool true)∧Below w.heap.size w w':=by
 obtain⟨B,O⟩:∃ B,B=w.heap.size:=⟨_,rfl⟩;have af:B<=w.heap.size:=by omega
 rw[<-O];have V:=ZZ (ZpY B 10000 ⟨by decide,by decide⟩ w af)
 have ay:=hpeD;have ax:=Zzk;clear O
 go_enter func7,ntmps7
 go_wp2_with fail
 refine V.o.mono ?_;rintro e W1 ⟨pd,rfl,ad,K⟩;have W:=ZZ K;have u:B<=W1.heap.size:=Nat.le_trans af K.size;have E:=ZZ (Zqw 0 W1 ad u (by decide) (by decide) (by decide) rfl)
 rw[ZcV] at E;clear ad K V
 go_wp2_with fail
 refine E.o.mono ?_;rintro e a ⟨p,rfl,ai,z⟩;have X:=ZZ ai;have U:=ZZ (W.o.trans (z.mono u));have au:B<=a.heap.size:=Nat.le_trans u z.size;clear ai z E W u;obtain⟨f,q⟩:∃ f,f=a.alloc (.cells #[.int .i64 0,.int .i64 0,.int .i64 0,.int .i64 1,.int .i64 1,.int .i64 0,.int .i64 0] 62):=⟨_,rfl⟩;have am:f.heap.size=a.heap.size+1:=by rw[q];simp
 have H:Hid (Below a.heap.size a f):=ZZ (by rw[q];exact Jc _ _)
 have ag:Hid (Calls prog 22 #[ptr p,.slice (some ⟨a.heap.size,0,none⟩) 1 1] f fun e w'=>Z6 (fun k=>k<B∨(a.heap.size<=k∧k<f.heap.size)) f pd p ((ZyM,Zve Zdw),0) 2 30000 e w'):=ZZ (by
  have b:=Zil (.slice (some ⟨a.heap.size,0,none⟩) 1 1) [ZnC] f (X.o.fresh H.o) (fun k hk=>by
   rcases hk with hk | hk
   ·omega
   ·exact hk.2) (by have:=ZeT (d:=ZiS 10000) (kind:=0) (by decide) (by decide);rw[ZcV] at this;exact this) (by rw[q];exact ZwK a) (.inr fun k hk=>by
   have e:a.heap.size=k:=Option.some.inj hk
   exact .inr (by omega)) (by decide) (by decide) (by decide) (by decide)
  rw[ZxY] at b
  exact b)
 have S:=ZZ q;clear q X
 go_wp2_with fail
 rw[<-S.o];refine ag.o.mono ?_;rintro e x ⟨rfl,ac,C⟩;have Q:Hid (SD (fun k=>k<B) x pd p ZyM (Zve Zdw) 2 30000):=ZZ (ac.less (fun k hk=>.inl hk))
 have ab:Hid (Below B w x):=ZZ ((U.o.trans (H.o.mono au)).trans (ZnD (C.mono (fun k hk N=>hk (.inl N))) (by omega)))
 have Y:B<=x.heap.size:=by have:=C.size;omega
 clear ac C ag S H U am;have J:=ZZ (ZeE x Q.o (fun k hk=>by omega) ⟨by decide,by decide,⟨by decide,by decide⟩,⟨by decide,by decide⟩⟩)
 rw[Zzj] at J
 go_wp2_with fail
 refine J.o.mono ?_;rintro e c ⟨rfl,R,A⟩;have D:Hid (SD (fun k=>k<B) c pd p sto2 (ZyN Zdw) 6 30000):=ZZ R
 have ae:Hid (Below B w c):=ZZ (ab.o.trans (ZnD A Y));have T:B<=c.heap.size:=Nat.le_trans Y A.size;clear R A J Q ab
 have P:Hid (Calls prog 28 #[ptr pd] c fun e w'=>∃ v,e=.returned v∧Qo w' c.heap.size v [2]∧Below c.heap.size c w'):=ZZ (by
  obtain⟨F,M,I,L,b,h2,h3,-⟩:=D.o
  exact Zrl (B:=B) c ⟨F,b,fun k hk=>by have:=h3 k hk;omega⟩ (by decide))
 go_wp2_with fail
 refine P.o.mono ?_;rintro e i ⟨v6,rfl,ak,y⟩;have G:=ZZ (D.o.below y);have aj:=ZZ (ae.o.trans (y.mono T));have an:B<=i.heap.size:=Nat.le_trans T y.size;obtain⟨ao,cap,Z,-,-,-,-,g⟩:=ak.rd (fun n N=>by rw[List.mem_singleton.1 N];exact⟨by decide,by decide⟩)
 rcases g with g | ⟨l,j,av,g⟩
 ·cases g
 have ap:=ZZ (g 0 (by decide))
 subst av;have aq:Hid (v6=.slice (some ⟨l,j,none⟩) 1 cap):=ZZ Z;have aa:Hid (Calls prog 14 #[ptr p] i fun e w'=>e=.returned (.int .i64 1)∧Below i.heap.size i w'):=ZZ (G.o.next ⟨by decide,by decide,⟨by decide,by decide⟩,⟨by decide,by decide⟩⟩)
 rw[aq.o];clear g Z ak y P D ae
 go_wp2_with fail
 refine aa.o.mono ?_;rintro e m ⟨rfl,t⟩
 have al:Hid (Calls prog 11 #[ptr p] m fun e w'=>e=.returned (.int .i64 1)∧w'=m):=ZZ (by
  obtain⟨F,M,I,L,b,h2,-⟩:=G.o.below t
  exact ZhV m h2)
 have c7:m.cell? ⟨l,j+0,none⟩=some (.int .i64 2):=by
  have b:i.cell? ⟨l,j+0,none⟩=some (.int .i64 2):=ap.o;rw[t.cell (p:=⟨l,j+0,none⟩) (World.block_lt_of_cell? i _ b)];exact b
 have aw:m.cell? ⟨l,j,none⟩=some (.int .i64 2):=c7;have ar:=ZZ (aj.o.trans (t.mono an));clear t aa G aj c7
 go_wp2_with fail
 refine al.o.mono ?_;rintro e W8 ⟨rfl,rfl⟩;go_wp2;go_ret;exact⟨by first | rfl | simp,ar.o⟩
end Go.Proofs.YtnahjngbneicaaaGreatDoor
