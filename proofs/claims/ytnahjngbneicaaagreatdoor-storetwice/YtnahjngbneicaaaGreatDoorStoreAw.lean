import Derived.Test.YtnahjngbneicaaaGreatDoorStoreY
import Derived.Test.YtnahjngbneicaaaGreatDoorOpenStore
namespace Go.Proofs.YtnahjngbneicaaaGreatDoor
open _root_.Go.Proofs.Tryz
open List (length_append)
set_option maxRecDepth 100000
open Go.RowKit
variable {d:Dk} {B N T pd:Nat}
def ZqS:Rec:=⟨0,0,0,⟨1,1,0⟩,0⟩
def ZtK (kind:Int):Sto:=⟨⟨0,[],[]⟩,[ZdG kind],ZdG kind,0,0,false⟩
theorem Zgl (room kind:Int):ZjD (Zmi room) kind=ZtK kind:=by
 have d:Zji (Zmi room) kind=ZeI:=rfl;have b:Zbr (Zmi room) kind=[ZdG kind]:=rfl;have a:Zef [ZdG kind]=ZdG kind:=rfl;unfold ZjD;rw[d,b,a]
 have c:ZeI.behind (ZdG kind)=(⟨0,[],[]⟩,ZdG kind):=by
  unfold Lgb.behind;rw[if_neg (fun h=>h.1 rfl)]
  rfl
 rw[c];rfl
theorem ZtL {l:List Rec} (h:ZbE l):(ZdF l).length<=20+60*l.length:=by
 obtain⟨c,g,a,i⟩:=h;have b:=ZiR l [] (fun r b=>by cases b) a
 unfold ZdF;rw[length_append,length_append]
 have d:ZaA (l.headD Zaj):=by
  match l,c with
  | r::t,_=>exact a r List.mem_cons_self
 have e:(Lib.uvarint (l.headD Zaj).idx.toNat).length<=10:=ZdD (by have:=d.2.2.1;omega)
 have f:(Lib.uvarint l.length).length<=10:=ZdD (by omega)
 omega
theorem ZBn:ZbE [ZqS]:=by decide
def ZgM:List UInt8:=Zew (ZtK 0) [ZqS]
theorem ZvR:ZgM.length<=10000:=by
 have e:ZgM=Zad (ZbC 3 0 0)++Zad (ZdF [ZqS]):=rfl;rw[e,length_append,Zas,Zas];have d:(ZbC 3 0 0).length=4:=by simp[ZbC,ZzE]
 have b:(ZdF [ZqS]).length<=80:=ZtL ZBn;have a:=ZBz (n:=(ZbC 3 0 0).length) (by omega)
 have c:=ZBz (n:=(ZdF [ZqS]).length) (by omega)
 omega
def Zyu (b:List UInt8):Dk:=⟨10000,[⟨b,0⟩],[],[.give 2 0],-1⟩
def ZCc:Sto:=Zcf (ZtK 0) 2 [ZqS]
def ZCd (b:List UInt8):Dk:=⟨10000,[⟨b,b.length⟩],[(2,0)],[],-1⟩
def sto2:Sto:=ZeJ { ZCc with nw:=false }
theorem ZBo:Zbz [ZqS] (ZtK 0,Zmi 10000)=((ZCc,Zyu ZgM),0):=by
 have d:ZfL (ZtK 0) (Zmi 10000)=2:=rfl;have f:=ZvR;have c:Zew (ZtK 0) [ZqS]=ZgM:=rfl
 have e:ZaK (Zmi 10000) 2 ZgM=(Zyu ZgM,0):=by
  generalize ZgM=b at f;unfold ZaK
  rw[if_neg (show(Zmi 10000).power≠0 by decide),if_neg (by decide),if_neg (by
   show ¬ (((ZcL (Zmi 10000):Nat):Int)+(b.length:Int)>10000);have g:ZcL (Zmi 10000)=0:=rfl;rw[g]
   omega)]
  rfl
 have a:([ZqS].headD Zaj).idx=(ZtK 0).next:=rfl;unfold Zbz;rw[if_neg (fun h=>h ZBn),if_neg (fun h=>h a),d,c,e,if_pos rfl]
 rfl
theorem ZCz (b:List UInt8):ZcE (ZCc,Zyu b)=((sto2,ZCd b),0):=rfl
theorem hpeD (w:World) (p:Nat):(binOp .eql 26 (ptr p) (.pointer none)).run prog w=.ok (.bool false) w:=by kernel_rfl
theorem hpnD (w:World) (p:Nat):(binOp .neq 26 (ptr p) (.pointer none)).run prog w=.ok (.bool true) w:=by kernel_rfl
theorem ZCA (w:World) (p:Nat):(binOp .eql 28 (ptr p) (.pointer none)).run prog w=.ok (.bool false) w:=by kernel_rfl
theorem Bnd.sz (h:Bnd d N T):SzD d N T:=⟨h.files,h.bytes⟩
theorem Zyv (kind:Int) (w:World) (h:ZAK B w pd d N T) (m:B<=w.heap.size) (g:N<=900) (c:T<=90000) (b:N*T<=9000000):
 Calls prog 13 #[ptr pd,.int .i64 kind] w fun e w'=>Zyt (fun k=>k<B) w pd d kind N T e w':=by
 obtain⟨n,i⟩:=h.ok;obtain⟨F,j,f⟩:=h;exact ZtJ kind w j (fun k a l=>by have:=f k a;omega) (fun k a=>by omega) (by omega) (by omega) i.sz g c b
theorem ZqT {w w':World} (h:Zap (fun k=>¬ k<B) w w') (a:B<=w.heap.size):Below B w w':=h.below a (fun k b=>by omega)
theorem ZtM (kind:Int) (w:World) (h:ZAK B w pd d N T) (b:B<=w.heap.size) (m:N<=900) (i:T<=90000) (f:N*T<=9000000) (j:ZiA d kind=0):
 Calls prog 13 #[ptr pd,.int .i64 kind] w fun e w'=>∃ p,e=.returned (.tuple #[ptr p,.int .i64 0])∧SD (fun k=>k<B) w' pd p (ZjD d kind) d N T∧Below w.heap.size w w':=
 (Zyv kind w h b m i f).mono fun e w' a=>by
  rcases a with ⟨n,-⟩ | ⟨-,p,l,g,c⟩
  ·exact absurd j n
  ·exact⟨p,l,g,c⟩
theorem ZAa (W:World):RdR (W.alloc (.cells #[.int .i64 0,.int .i64 0,.int .i64 0,.int .i64 1,.int .i64 1,.int .i64 0,.int .i64 0] 62)) (.slice (some ⟨W.heap.size,0,none⟩) 1 1) [ZqS]:=by
 have a:=World.ownsRow_lit (base:=0) (e:=62) W (Zeo ZqS) 1 (Nat.zero_le _) (by unfold maxLen;omega) (size:=7) rfl
 have b:Zbq (W.alloc (.cells (Zeo ZqS) 62)) 0 (.slice (some ⟨W.heap.size,0,none⟩) 1 1) [ZqS]:=by
  unfold Zbq;have e:Zan [ZqS]=(Zeo ZqS).toList:=by simp[Zan]
  rw[e];exact a
 exact b.rd (fun r c=>by
  rw[List.mem_singleton.1 c]
  exact ZfA (ZBn.2.2.1 ZqS (by simp)))
set_option maxHeartbeats 4000000 in
theorem ZvS (w:World):Calls prog 7 #[] w fun e w'=>e=.returned (.bool true)∧Below w.heap.size w w':=by
 obtain⟨B,hB⟩:∃ B,B=w.heap.size:=⟨_,rfl⟩;have Z:B<=w.heap.size:=by omega
 rw[<-hB];have U:=ZZ (Zto B 10000 ⟨by decide,by decide⟩ w Z)
 have ar:=hpeD;have au:=ZCA;clear hB
 go_enter func7,ntmps7
 go_wp2_with fail
 refine U.o.mono ?_;rintro e W1 ⟨pd,rfl,X,H⟩;have af:=ZZ H;have x:B<=W1.heap.size:=Nat.le_trans Z H.size;have C:=ZZ (ZtM 0 W1 X x (by decide) (by decide) (by decide) rfl)
 rw[Zgl] at C;clear X H U
 go_wp2_with fail
 refine C.o.mono ?_;rintro e a ⟨p,rfl,V,K⟩;have ad:=ZZ V;have ac:=ZZ (af.o.trans (K.mono x));have aq:B<=a.heap.size:=Nat.le_trans x K.size;clear V K C af x;obtain⟨c,l⟩:∃ c,c=a.alloc (.cells #[.int .i64 0,.int .i64 0,.int .i64 0,.int .i64 1,.int .i64 1,.int .i64 0,.int .i64 0] 62):=⟨_,rfl⟩;have an:c.heap.size=a.heap.size+1:=by rw[l];simp
 have E:Hid (Below a.heap.size a c):=ZZ (by rw[l];exact ZcW _ _)
 have W:Hid (Calls prog 22 #[ptr p,.slice (some ⟨a.heap.size,0,none⟩) 1 1] c fun e w'=>Zff (fun k=>k<B∨(a.heap.size<=k∧k<c.heap.size)) c pd p ((ZCc,Zyu ZgM),0) 2 30000 e w'):=ZZ (by
  have b:=ZlB (.slice (some ⟨a.heap.size,0,none⟩) 1 1) [ZqS] c (ad.o.fresh E.o) (fun k hk=>by
   rcases hk with hk | hk
   ·omega
   ·exact hk.2) (by have:=Zij (d:=Zmi 10000) (kind:=0) (by decide) (by decide);rw[Zgl] at this;exact this) (by rw[l];exact ZAa a) (.inr fun k hk=>by
   have e:a.heap.size=k:=Option.some.inj hk
   exact .inr (by omega)) (by decide) (by decide) (by decide) (by decide)
  rw[ZBo] at b
  exact b)
 have ah:=ZZ l;clear l ad
 go_wp2_with fail
 rw[<-ah.o];refine W.o.mono ?_;rintro e q ⟨rfl,P,A⟩;have T:Hid (SD (fun k=>k<B) q pd p ZCc (Zyu ZgM) 2 30000):=ZZ (P.less (fun k hk=>.inl hk))
 have R:Hid (Below B w q):=ZZ ((ac.o.trans (E.o.mono aq)).trans (ZqT (A.mono (fun k hk y=>hk (.inl y))) (by omega)))
 have Q:B<=q.heap.size:=by have:=A.size;omega
 clear P A W ah E ac an;have D:=ZZ (ZhU q T.o (fun k hk=>by omega) ⟨by decide,by decide,⟨by decide,by decide⟩,⟨by decide,by decide⟩⟩)
 rw[ZCz] at D
 go_wp2_with fail
 refine D.o.mono ?_;rintro e f ⟨rfl,N,z⟩;have J:Hid (SD (fun k=>k<B) f pd p sto2 (ZCd ZgM) 6 30000):=ZZ N
 have aa:Hid (Below B w f):=ZZ (R.o.trans (ZqT z Q));have ab:B<=f.heap.size:=Nat.le_trans Q z.size;clear N z D T R
 have ag:Hid (Calls prog 28 #[ptr pd] f fun e w'=>∃ v,e=.returned v∧ZaB w' f.heap.size v [2]∧Below f.heap.size f w'):=ZZ (by
  obtain⟨F,M,I,L,b,h2,h3,-⟩:=J.o
  exact ZuB (B:=B) f ⟨F,b,fun k hk=>by have:=h3 k hk;omega⟩ (by decide))
 go_wp2_with fail
 refine ag.o.mono ?_;rintro e g ⟨v6,rfl,Y,u⟩;have G:=ZZ (J.o.below u);have S:=ZZ (aa.o.trans (u.mono ab));have am:B<=g.heap.size:=Nat.le_trans ab u.size;obtain⟨ao,cap,O,-,-,-,-,h⟩:=Y.rd (fun n y=>by rw[List.mem_singleton.1 y];exact⟨by decide,by decide⟩)
 rcases h with h | ⟨i,m,al,h⟩
 ·cases h
 have ai:=ZZ (h 0 (by decide))
 subst al;have aj:Hid (v6=.slice (some ⟨i,m,none⟩) 1 cap):=ZZ O;have ae:Hid (Calls prog 14 #[ptr p] g fun e w'=>e=.returned (.int .i64 1)∧Below g.heap.size g w'):=ZZ (G.o.next ⟨by decide,by decide,⟨by decide,by decide⟩,⟨by decide,by decide⟩⟩)
 rw[aj.o];clear h O Y u ag J aa
 go_wp2_with fail
 refine ae.o.mono ?_;rintro e j ⟨rfl,t⟩
 have ak:Hid (Calls prog 11 #[ptr p] j fun e w'=>e=.returned (.int .i64 1)∧w'=j):=ZZ (by
  obtain⟨F,M,I,L,b,h2,-⟩:=G.o.below t
  exact Zll j h2)
 have c7:j.cell? ⟨i,m+0,none⟩=some (.int .i64 2):=by
  have b:g.cell? ⟨i,m+0,none⟩=some (.int .i64 2):=ai.o;rw[t.cell (p:=⟨i,m+0,none⟩) (World.block_lt_of_cell? g _ b)];exact b
 have av:j.cell? ⟨i,m,none⟩=some (.int .i64 2):=c7;have ap:=ZZ (S.o.trans (t.mono am));clear t ae G S c7
 go_wp2_with fail
 refine ak.o.mono ?_;rintro e W8 ⟨rfl,rfl⟩;go_wp2;go_ret;exact⟨by first | rfl | simp,ap.o⟩
end Go.Proofs.YtnahjngbneicaaaGreatDoor
