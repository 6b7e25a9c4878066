import Derived.Test.YtnahjngbneicaaaGreatDoorStoreY
import Derived.Test.YtnahjngbneicaaaGreatDoorOpenStore
namespace Go.Proofs.YtnahjngbneicaaaGreatDoor
open _root_.Go.Proofs.Tryz
open List (length_append)
set_option maxRecDepth 100000
open Go.RowKit
def ZqS:Rec:=⟨0,0,0,⟨1,1,0⟩,0⟩
def ZtK (kind:Int):Sto:=⟨⟨0,[],[]⟩,[ZdG kind],ZdG kind,0,0,false⟩
theorem Zgl (room kind:Int):ZjD (Zmi room) kind=ZtK kind:=by
 have c:Zji (Zmi room) kind=ZeI:=rfl;have a:Zbr (Zmi room) kind=[ZdG kind]:=rfl;have b:Zef [ZdG kind]=ZdG kind:=rfl;unfold ZjD;rw[c,a,b]
 have d:ZeI.behind (ZdG kind)=(⟨0,[],[]⟩,ZdG kind):=by
  unfold Lgb.behind;rw[if_neg (fun h=>h.1 rfl)]
  rfl
 rw[d];rfl
theorem ZtL {l:List Rec} (h:ZbE l):(ZdF l).length<=20+60*l.length:=by
 obtain⟨c,e,a,i⟩:=h;have b:=ZiR l [] (fun r b=>by cases b) a
 unfold ZdF;rw[length_append,length_append]
 have d:ZaA (l.headD Zaj):=by
  match l,c with
  | r::t,_=>exact a r List.mem_cons_self
 have g:(Lib.uvarint (l.headD Zaj).idx.toNat).length<=10:=ZdD (by have:=d.2.2.1;omega)
 have f:(Lib.uvarint l.length).length<=10:=ZdD (by omega)
 omega
theorem ZBn:ZbE [ZqS]:=by decide
def ZgM:List UInt8:=Zew (ZtK 0) [ZqS]
theorem ZvR:ZgM.length<=10000:=by
 have e:ZgM=Zad (ZbC 3 0 0)++Zad (ZdF [ZqS]):=rfl;rw[e,length_append,Zas,Zas];have c:(ZbC 3 0 0).length=4:=by simp[ZbC,ZzE]
 have a:(ZdF [ZqS]).length<=80:=ZtL ZBn;have b:=ZBz (n:=(ZbC 3 0 0).length) (by omega)
 have d:=ZBz (n:=(ZdF [ZqS]).length) (by omega)
 omega
def Zyu (b:List UInt8):Dk:=⟨10000,[⟨b,0⟩],[],[.give 2 0],-1⟩
def ZCc:Sto:=Zcf (ZtK 0) 2 [ZqS]
def ZCd (b:List UInt8):Dk:=⟨10000,[⟨b,b.length⟩],[(2,0)],[],-1⟩
def sto2:Sto:=ZeJ { ZCc with nw:=false }
theorem ZBo:Zbz [ZqS] (ZtK 0,Zmi 10000)=((ZCc,Zyu ZgM),0):=by
 have f:ZfL (ZtK 0) (Zmi 10000)=2:=rfl;have e:=ZvR;have c:Zew (ZtK 0) [ZqS]=ZgM:=rfl
 have g:ZaK (Zmi 10000) 2 ZgM=(Zyu ZgM,0):=by
  generalize ZgM=b at e;unfold ZaK
  rw[if_neg (show(Zmi 10000).power≠0 by decide),if_neg (by decide),if_neg (by
   show ¬ (((ZcL (Zmi 10000):Nat):Int)+(b.length:Int)>10000);have a:ZcL (Zmi 10000)=0:=rfl;rw[a]
   omega)]
  rfl
 have d:([ZqS].headD Zaj).idx=(ZtK 0).next:=rfl;unfold Zbz;rw[if_neg (fun h=>h ZBn),if_neg (fun h=>h d),f,c,g,if_pos rfl]
 rfl
theorem ZCz (b:List UInt8):ZcE (ZCc,Zyu b)=((sto2,ZCd b),0):=rfl
theorem hpeD (w:World) (p:Nat):(binOp .eql 26 (ptr p) (.pointer none)).run prog w=.ok (.bool false) w:=by kernel_rfl
theorem hpnD (w:World) (p:Nat):(binOp .neq 26 (ptr p) (.pointer none)).run prog w=.ok (.bool true) w:=by kernel_rfl
theorem ZCA (w:World) (p:Nat):(binOp .eql 28 (ptr p) (.pointer none)).run prog w=.ok (.bool false) w:=by kernel_rfl
theorem Bnd.sz {d:Dk} {N T:Nat} (h:Bnd d N T):SzD d N T:=⟨h.files,h.bytes⟩
theorem Zyv {B pd:Nat} {d:Dk} {N T:Nat} (kind:Int) (w:World) (h:ZAK B w pd d N T) (m:B<=w.heap.size) (j:N<=900) (f:T<=90000) (g:N*T<=9000000):
 Calls prog 13 #[ptr pd,.int .i64 kind] w fun e w'=>Zyt (fun k=>k<B) w pd d kind N T e w':=by
 obtain⟨n,c⟩:=h.ok;obtain⟨F,b,i⟩:=h;exact ZtJ kind w b (fun k a l=>by have:=i k a;omega) (fun k a=>by omega) (by omega) (by omega) c.sz j f g
theorem ZqT {B:Nat} {w w':World} (h:Zap (fun k=>¬ k<B) w w') (a:B<=w.heap.size):Below B w w':=h.below a (fun k b=>by omega)
theorem ZtM {B pd:Nat} {d:Dk} {N T:Nat} (kind:Int) (w:World) (h:ZAK B w pd d N T) (i:B<=w.heap.size) (l:N<=900) (b:T<=90000) (f:N*T<=9000000) (m:ZiA d kind=0):
 Calls prog 13 #[ptr pd,.int .i64 kind] w fun e w'=>∃ p,e=.returned (.tuple #[ptr p,.int .i64 0])∧SD (fun k=>k<B) w' pd p (ZjD d kind) d N T∧Below w.heap.size w w':=
 (Zyv kind w h i l b f).mono fun e w' g=>by
  rcases g with ⟨a,-⟩ | ⟨-,p,j,c,n⟩
  ·exact absurd m a
  ·exact⟨p,j,c,n⟩
theorem ZAa (W:World):RdR (W.alloc (.cells #[.int .i64 0,.int .i64 0,.int .i64 0,.int .i64 1,.int .i64 1,.int .i64 0,.int .i64 0] 62)) (.slice (some ⟨W.heap.size,0,none⟩) 1 1) [ZqS]:=by
 have b:=World.ownsRow_lit (base:=0) (e:=62) W (Zeo ZqS) 1 (Nat.zero_le _) (by unfold maxLen;omega) (size:=7) rfl
 have c:Zbq (W.alloc (.cells (Zeo ZqS) 62)) 0 (.slice (some ⟨W.heap.size,0,none⟩) 1 1) [ZqS]:=by
  unfold Zbq;have e:Zan [ZqS]=(Zeo ZqS).toList:=by simp[Zan]
  rw[e];exact b
 exact c.rd (fun r a=>by
  rw[List.mem_singleton.1 a]
  exact ZfA (ZBn.2.2.1 ZqS (by simp)))
set_option maxHeartbeats 4000000 in
theorem ZvS (w:World):Calls prog 7 #[] w fun e w'=>e=.returned (.bool true)∧Below w.heap.size w w':=by
 obtain⟨B,hB⟩:∃ B,B=w.heap.size:=⟨_,rfl⟩;have K:B<=w.heap.size:=by omega
 rw[<-hB];have Y:=ZZ (Zto B 10000 ⟨by decide,by decide⟩ w K)
 have ap:=hpeD;have aq:=ZCA;clear hB
 go_enter func7,ntmps7
 go_wp2_with fail
 refine Y.o.mono ?_;rintro e N ⟨pd,rfl,X,x⟩;have af:=ZZ x;have m:B<=N.heap.size:=Nat.le_trans K x.size;have D:=ZZ (ZtM 0 N X m (by decide) (by decide) (by decide) rfl)
 rw[Zgl] at D;clear X x Y
 go_wp2_with fail
 refine D.o.mono ?_;rintro e a ⟨p,rfl,ac,u⟩;have S:=ZZ ac;have V:=ZZ (af.o.trans (u.mono m));have ai:B<=a.heap.size:=Nat.le_trans m u.size;clear ac u D af m;obtain⟨c,j⟩:∃ c,c=a.alloc (.cells #[.int .i64 0,.int .i64 0,.int .i64 0,.int .i64 1,.int .i64 1,.int .i64 0,.int .i64 0] 62):=⟨_,rfl⟩;have am:c.heap.size=a.heap.size+1:=by rw[j];simp
 have y:Hid (Below a.heap.size a c):=ZZ (by rw[j];exact ZcW _ _)
 have P:Hid (Calls prog 22 #[ptr p,.slice (some ⟨a.heap.size,0,none⟩) 1 1] c fun e w'=>Zff (fun k=>k<B∨(a.heap.size<=k∧k<c.heap.size)) c pd p ((ZCc,Zyu ZgM),0) 2 30000 e w'):=ZZ (by
  have b:=ZlB (.slice (some ⟨a.heap.size,0,none⟩) 1 1) [ZqS] c (S.o.fresh y.o) (fun k hk=>by
   rcases hk with hk | hk
   ·omega
   ·exact hk.2) (by have:=Zij (d:=Zmi 10000) (kind:=0) (by decide) (by decide);rw[Zgl] at this;exact this) (by rw[j];exact ZAa a) (.inr fun k hk=>by
   have e:a.heap.size=k:=Option.some.inj hk
   exact .inr (by omega)) (by decide) (by decide) (by decide) (by decide)
  rw[ZBo] at b
  exact b)
 have ad:=ZZ j;clear j S
 go_wp2_with fail
 rw[<-ad.o];refine P.o.mono ?_;rintro e q ⟨rfl,J,G⟩;have W:Hid (SD (fun k=>k<B) q pd p ZCc (Zyu ZgM) 2 30000):=ZZ (J.less (fun k hk=>.inl hk))
 have T:Hid (Below B w q):=ZZ ((V.o.trans (y.o.mono ai)).trans (ZqT (G.mono (fun k hk A=>hk (.inl A))) (by omega)))
 have aa:B<=q.heap.size:=by have:=G.size;omega
 clear J G P ad y V am;have z:=ZZ (ZhU q W.o (fun k hk=>by omega) ⟨by decide,by decide,⟨by decide,by decide⟩,⟨by decide,by decide⟩⟩)
 rw[ZCz] at z
 go_wp2_with fail
 refine z.o.mono ?_;rintro e f ⟨rfl,Q,C⟩;have H:Hid (SD (fun k=>k<B) f pd p sto2 (ZCd ZgM) 6 30000):=ZZ Q
 have ae:Hid (Below B w f):=ZZ (T.o.trans (ZqT C aa));have O:B<=f.heap.size:=Nat.le_trans aa C.size;clear Q C z W T
 have U:Hid (Calls prog 28 #[ptr pd] f fun e w'=>∃ v,e=.returned v∧ZaB w' f.heap.size v [2]∧Below f.heap.size f w'):=ZZ (by
  obtain⟨F,M,I,L,b,h2,h3,-⟩:=H.o
  exact ZuB (B:=B) f ⟨F,b,fun k hk=>by have:=h3 k hk;omega⟩ (by decide))
 go_wp2_with fail
 refine U.o.mono ?_;rintro e g ⟨v6,rfl,Z,t⟩;have E:=ZZ (H.o.below t);have ag:=ZZ (ae.o.trans (t.mono O));have ak:B<=g.heap.size:=Nat.le_trans O t.size;obtain⟨ao,cap,ab,-,-,-,-,h⟩:=Z.rd (fun n A=>by rw[List.mem_singleton.1 A];exact⟨by decide,by decide⟩)
 rcases h with h | ⟨bb,off,hao,h⟩
 ·cases h
 have aj:=ZZ (h 0 (by decide))
 subst hao;have ah:Hid (v6=.slice (some ⟨bb,off,none⟩) 1 cap):=ZZ ab;have R:Hid (Calls prog 14 #[ptr p] g fun e w'=>e=.returned (.int .i64 1)∧Below g.heap.size g w'):=ZZ (E.o.next ⟨by decide,by decide,⟨by decide,by decide⟩,⟨by decide,by decide⟩⟩)
 rw[ah.o];clear h ab Z t U H ae
 go_wp2_with fail
 refine R.o.mono ?_;rintro e i ⟨rfl,l⟩
 have al:Hid (Calls prog 11 #[ptr p] i fun e w'=>e=.returned (.int .i64 1)∧w'=i):=ZZ (by
  obtain⟨F,M,I,L,b,h2,-⟩:=E.o.below l
  exact Zll i h2)
 have c7:i.cell? ⟨bb,off+0,none⟩=some (.int .i64 2):=by
  have b:g.cell? ⟨bb,off+0,none⟩=some (.int .i64 2):=aj.o;rw[l.cell (p:=⟨bb,off+0,none⟩) (World.block_lt_of_cell? g _ b)];exact b
 have ar:i.cell? ⟨bb,off,none⟩=some (.int .i64 2):=c7;have an:=ZZ (ag.o.trans (l.mono ak));clear l R E ag c7
 go_wp2_with fail
 refine al.o.mono ?_;rintro e W8 ⟨rfl,rfl⟩;go_wp2;go_ret;exact⟨by first | rfl | simp,an.o⟩
end Go.Proofs.YtnahjngbneicaaaGreatDoor
