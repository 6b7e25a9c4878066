import Derived.Test.YtnahjngbneicaaaGreatDoorStoreY
import Derived.Test.YtnahjngbneicaaaGreatDoorOpenStore
namespace Go.Proofs.YtnahjngbneicaaaGreatDoor
open _root_.Go.Proofs.Tryz
open List (length_append)
set_option maxRecDepth 100000
open Go.RowKit
variable {d:Dk} {B N T pd:Nat}
def ZnC:Rec:=⟨0,0,0,⟨1,1,0⟩,0⟩
def Zqu (kind:Int):Sto:=⟨⟨0,[],[]⟩,[ZaC kind],ZaC kind,0,0,false⟩
theorem ZcV (room kind:Int):Zgn (ZiS room) kind=Zqu kind:=by
 have b:ZfS (ZiS room) kind=Zbv:=rfl;have c:Yd (ZiS room) kind=[ZaC kind]:=rfl;have d:ZaW [ZaC kind]=ZaC kind:=rfl;unfold Zgn;rw[b,c,d]
 have a:Zbv.behind (ZaC kind)=(⟨0,[],[]⟩,ZaC kind):=by
  unfold Lgb.behind;rw[if_neg (fun h=>h.1 rfl)]
  rfl
 rw[a];rfl
theorem Zqv {l:List Rec} (h:Yc l):(Y2 l).length<=20+60*l.length:=by
 obtain⟨c,i,b,e⟩:=h;have a:=ZfB l [] (fun r a=>by cases a) b
 unfold Y2;rw[length_append,length_append]
 have d:Qw (l.headD Qi):=by
  match l,c with
  | r::t,_=>exact b r List.mem_cons_self
 have f:(Lib.uvarint (l.headD Qi).idx.toNat).length<=10:=Ji (by have:=d.2.2.1;omega)
 have g:(Lib.uvarint l.length).length<=10:=Ji (by omega)
 omega
theorem ZxX:Yc [ZnC]:=by decide
def Zdw:List UInt8:=Zbl (Zqu 0) [ZnC]
theorem ZsB:Zdw.length<=10000:=by
 have e:Zdw=Qe (X6 3 0 0)++Qe (Y2 [ZnC]):=rfl;rw[e,length_append,Qz,Qz];have b:(X6 3 0 0).length=4:=by simp[X6,Zwo]
 have c:(Y2 [ZnC]).length<=80:=Zqv ZxX;have d:=Zyj (n:=(X6 3 0 0).length) (by omega)
 have a:=Zyj (n:=(Y2 [ZnC]).length) (by omega)
 omega
def Zve (b:List UInt8):Dk:=⟨10000,[⟨b,0⟩],[],[.give 2 0],-1⟩
def ZyM:Sto:=Z2 (Zqu 0) 2 [ZnC]
def ZyN (b:List UInt8):Dk:=⟨10000,[⟨b,b.length⟩],[(2,0)],[],-1⟩
def sto2:Sto:=Zbw { ZyM with nw:=false }
theorem ZxY:Yn [ZnC] (Zqu 0,ZiS 10000)=((ZyM,Zve Zdw),0):=by
 have e:Zcw (Zqu 0) (ZiS 10000)=2:=rfl;have c:=ZsB;have g:Zbl (Zqu 0) [ZnC]=Zdw:=rfl
 have a:Xe (ZiS 10000) 2 Zdw=(Zve Zdw,0):=by
  generalize Zdw=b at c;unfold Xe
  rw[if_neg (show(ZiS 10000).power≠0 by decide),if_neg (by decide),if_neg (by
   show ¬ (((Zj (ZiS 10000):Nat):Int)+(b.length:Int)>10000);have f:Zj (ZiS 10000)=0:=rfl;rw[f]
   omega)]
  rfl
 have d:([ZnC].headD Qi).idx=(Zqu 0).next:=rfl;unfold Yn;rw[if_neg (fun h=>h ZxX),if_neg (fun h=>h d),e,g,a,if_pos rfl]
 rfl
theorem Zzj (b:List UInt8):Zf (ZyM,Zve b)=((sto2,ZyN b),0):=rfl
theorem hpeD (w:World) (p:Nat):(binOp .eql 26 (ptr p) (.pointer none)).run prog w=.ok (.bool false) w:=by kernel_rfl
theorem hpnD (w:World) (p:Nat):(binOp .neq 26 (ptr p) (.pointer none)).run prog w=.ok (.bool true) w:=by kernel_rfl
theorem Zzk (w:World) (p:Nat):(binOp .eql 28 (ptr p) (.pointer none)).run prog w=.ok (.bool false) w:=by kernel_rfl
theorem Bnd.sz (h:Bnd d N T):SzD d N T:=⟨h.files,h.bytes⟩
theorem Zvf (kind:Int) (w:World) (h:Zxu B w pd d N T) (m:B<=w.heap.size) (g:N<=900) (i:T<=90000) (b:N*T<=9000000):
 Calls prog 13 #[ptr pd,.int .i64 kind] w fun e w'=>Zvd (fun k=>k<B) w pd d kind N T e w':=by
 obtain⟨l,j⟩:=h.ok;obtain⟨F,f,c⟩:=h;exact Zqt kind w f (fun k a n=>by have:=c k a;omega) (fun k a=>by omega) (by omega) (by omega) j.sz g i b
theorem ZnD {w w':World} (h:Qj (fun k=>¬ k<B) w w') (a:B<=w.heap.size):Below B w w':=h.below a (fun k b=>by omega)
theorem Zqw (kind:Int) (w:World) (h:Zxu B w pd d N T) (c:B<=w.heap.size) (m:N<=900) (n:T<=90000) (a:N*T<=9000000) (g:Zfk d kind=0):
 Calls prog 13 #[ptr pd,.int .i64 kind] w fun e w'=>∃ p,e=.returned (.tuple #[ptr p,.int .i64 0])∧SD (fun k=>k<B) w' pd p (Zgn d kind) d N T∧Below w.heap.size w w':=
 (Zvf kind w h c m n a).mono fun e w' i=>by
  rcases i with ⟨f,-⟩ | ⟨-,p,b,j,l⟩
  ·exact absurd g f
  ·exact⟨p,b,j,l⟩
theorem ZwK (W:World):RdR (W.alloc (.cells #[.int .i64 0,.int .i64 0,.int .i64 0,.int .i64 1,.int .i64 1,.int .i64 0,.int .i64 0] 62)) (.slice (some ⟨W.heap.size,0,none⟩) 1 1) [ZnC]:=by
 have c:=World.ownsRow_lit (base:=0) (e:=62) W (Zi ZnC) 1 (Nat.zero_le _) (by unfold maxLen;omega) (size:=7) rfl
 have b:Q9 (W.alloc (.cells (Zi ZnC) 62)) 0 (.slice (some ⟨W.heap.size,0,none⟩) 1 1) [ZnC]:=by
  unfold Q9;have e:Qq [ZnC]=(Zi ZnC).toList:=by simp[Qq]
  rw[e];exact c
 exact b.rd (fun r a=>by
  rw[List.mem_singleton.1 a]
  exact Zcl (ZxX.2.2.1 ZnC (by simp)))
set_option maxHeartbeats 4000000 in
theorem ZsC (w:World):Calls prog 7 #[] w fun e w'=>e=.returned (.bool true)∧Below w.heap.size w w':=by
 obtain⟨B,hB⟩:∃ B,B=w.heap.size:=⟨_,rfl⟩;have ad:B<=w.heap.size:=by omega
 rw[<-hB];have U:=ZZ (ZpY B 10000 ⟨by decide,by decide⟩ w ad)
 have ay:=hpeD;have aw:=Zzk;clear hB
 go_enter func7,ntmps7
 go_wp2_with fail
 refine U.o.mono ?_;rintro e W1 ⟨pd,rfl,ag,K⟩;have W:=ZZ K;have x:B<=W1.heap.size:=Nat.le_trans ad K.size;have E:=ZZ (Zqw 0 W1 ag x (by decide) (by decide) (by decide) rfl)
 rw[ZcV] at E;clear ag K U
 go_wp2_with fail
 refine E.o.mono ?_;rintro e a ⟨p,rfl,ab,D⟩;have X:=ZZ ab;have V:=ZZ (W.o.trans (D.mono x));have aq:B<=a.heap.size:=Nat.le_trans x D.size;clear ab D E W x;obtain⟨f,l⟩:∃ f,f=a.alloc (.cells #[.int .i64 0,.int .i64 0,.int .i64 0,.int .i64 1,.int .i64 1,.int .i64 0,.int .i64 0] 62):=⟨_,rfl⟩;have av:f.heap.size=a.heap.size+1:=by rw[l];simp
 have z:Hid (Below a.heap.size a f):=ZZ (by rw[l];exact Jc _ _)
 have Q:Hid (Calls prog 22 #[ptr p,.slice (some ⟨a.heap.size,0,none⟩) 1 1] f fun e w'=>Z6 (fun k=>k<B∨(a.heap.size<=k∧k<f.heap.size)) f pd p ((ZyM,Zve Zdw),0) 2 30000 e w'):=ZZ (by
  have b:=Zil (.slice (some ⟨a.heap.size,0,none⟩) 1 1) [ZnC] f (X.o.fresh z.o) (fun k hk=>by
   rcases hk with hk | hk
   ·omega
   ·exact hk.2) (by have:=ZeT (d:=ZiS 10000) (kind:=0) (by decide) (by decide);rw[ZcV] at this;exact this) (by rw[l];exact ZwK a) (.inr fun k hk=>by
   have e:a.heap.size=k:=Option.some.inj hk
   exact .inr (by omega)) (by decide) (by decide) (by decide) (by decide)
  rw[ZxY] at b
  exact b)
 have ai:=ZZ l;clear l X
 go_wp2_with fail
 rw[<-ai.o];refine Q.o.mono ?_;rintro e t ⟨rfl,P,J⟩;have af:Hid (SD (fun k=>k<B) t pd p ZyM (Zve Zdw) 2 30000):=ZZ (P.less (fun k hk=>.inl hk))
 have T:Hid (Below B w t):=ZZ ((V.o.trans (z.o.mono aq)).trans (ZnD (J.mono (fun k hk G=>hk (.inl G))) (by omega)))
 have Y:B<=t.heap.size:=by have:=J.size;omega
 clear P J Q ai z V av;have A:=ZZ (ZeE t af.o (fun k hk=>by omega) ⟨by decide,by decide,⟨by decide,by decide⟩,⟨by decide,by decide⟩⟩)
 rw[Zzj] at A
 go_wp2_with fail
 refine A.o.mono ?_;rintro e c ⟨rfl,O,N⟩;have C:Hid (SD (fun k=>k<B) c pd p sto2 (ZyN Zdw) 6 30000):=ZZ O
 have ac:Hid (Below B w c):=ZZ (T.o.trans (ZnD N Y));have aj:B<=c.heap.size:=Nat.le_trans Y N.size;clear O N A af T
 have ak:Hid (Calls prog 28 #[ptr pd] c fun e w'=>∃ v,e=.returned v∧Qo w' c.heap.size v [2]∧Below c.heap.size c w'):=ZZ (by
  obtain⟨F,M,I,L,b,S,h3,-⟩:=C.o
  exact Zrl (B:=B) c ⟨F,b,fun k hk=>by have:=h3 k hk;omega⟩ (by decide))
 go_wp2_with fail
 refine ak.o.mono ?_;rintro e g ⟨v6,rfl,aa,y⟩;have H:=ZZ (C.o.below y);have Z:=ZZ (ac.o.trans (y.mono aj));have au:B<=g.heap.size:=Nat.le_trans aj y.size;obtain⟨ao,cap,ae,-,-,-,-,i⟩:=aa.rd (fun n G=>by rw[List.mem_singleton.1 G];exact⟨by decide,by decide⟩)
 rcases i with i | ⟨m,q,ap,i⟩
 ·cases i
 have am:=ZZ (i 0 (by decide))
 subst ap;have an:Hid (v6=.slice (some ⟨m,q,none⟩) 1 cap):=ZZ ae;have R:Hid (Calls prog 14 #[ptr p] g fun e w'=>e=.returned (.int .i64 1)∧Below g.heap.size g w'):=ZZ (H.o.next ⟨by decide,by decide,⟨by decide,by decide⟩,⟨by decide,by decide⟩⟩)
 rw[an.o];clear i ae aa y ak C ac
 go_wp2_with fail
 refine R.o.mono ?_;rintro e j ⟨rfl,u⟩
 have al:Hid (Calls prog 11 #[ptr p] j fun e w'=>e=.returned (.int .i64 1)∧w'=j):=ZZ (by
  obtain⟨F,M,I,L,b,S,-⟩:=H.o.below u
  exact ZhV j S)
 have c7:j.cell? ⟨m,q+0,none⟩=some (.int .i64 2):=by
  have b:g.cell? ⟨m,q+0,none⟩=some (.int .i64 2):=am.o;rw[u.cell (p:=⟨m,q+0,none⟩) (World.block_lt_of_cell? g _ b)];exact b
 have ax:j.cell? ⟨m,q,none⟩=some (.int .i64 2):=c7;have ar:=ZZ (Z.o.trans (u.mono au));clear u R H Z c7
 go_wp2_with fail
 refine al.o.mono ?_;rintro e W8 ⟨rfl,rfl⟩;go_wp2;go_ret;exact⟨by first | rfl | simp,ar.o⟩
end Go.Proofs.YtnahjngbneicaaaGreatDoor
