import Derived.Test.YtnahjngbneicaaaGreatDoorStoreY
import Derived.Test.YtnahjngbneicaaaGreatDoorOpenStore
namespace Go.Proofs.YtnahjngbneicaaaGreatDoor
set_option maxRecDepth 100000
open Go.RowKit
def ZoC:Rec:=⟨0,0,0,⟨1,1,0⟩,0⟩
def ZmK (kind:Int):Sto:=⟨⟨0,[],[]⟩,[ZbV kind],ZbV kind,0,0,false⟩
theorem ZgV (room kind:Int):ZoT (ZfL room) kind=ZmK kind:=by
 have h1:ZhS (ZfL room) kind=ZdZ:=rfl
 have h2:Zbe (ZfL room) kind=[ZbV kind]:=rfl
 have h3:Zdx [ZbV kind]=ZbV kind:=rfl
 unfold ZoT
 rw[h1,h2,h3]
 have h4:ZdZ.behind (ZbV kind)=(⟨0,[],[]⟩,ZbV kind):=by
  unfold Lgb.behind
  rw[if_neg (fun h=>h.1 rfl)]
  rfl
 rw[h4]
 rfl
theorem ZmH {l:List Rec} (h:ZaY l):(ZcU l).length<=20+60*l.length:=by
 obtain⟨h1,h2,h3,h4⟩:=h
 have hr:=ZhD l [] (fun r hr=>by cases hr) h3
 unfold ZcU
 rw[List.length_append,List.length_append]
 have hd:ZaF (l.headD Zai):=by
  match l,h1 with
  | r::t,_=>exact h3 r List.mem_cons_self
 have q1:(Lib.uvarint (l.headD Zai).idx.toNat).length<=10:=ZfX (by have:=hd.2.2.1;omega)
 have q2:(Lib.uvarint l.length).length<=10:=ZfX (by omega)
 omega
theorem Zyg:ZaY [ZoC]:=by decide
def ZfH:List UInt8:=ZcM (ZmK 0) [ZoC]
theorem ZsV:ZfH.length<=10000:=by
 have e:ZfH=Zad (Zbk 3 0 0)++Zad (ZcU [ZoC]):=rfl
 rw[e,List.length_append,Zap,Zap]
 have h1:(Zbk 3 0 0).length=4:=by simp[Zbk,Zwp]
 have h2:(ZcU [ZoC]).length<=80:=ZmH Zyg
 have h3:=Zys (n:=(Zbk 3 0 0).length) (by omega)
 have h4:=Zys (n:=(ZcU [ZoC]).length) (by omega)
 omega
def Zvn (b:List UInt8):Dk:=⟨10000,[⟨b,0⟩],[],[.give 2 0],-1⟩
def ZyS:Sto:=ZbE (ZmK 0) 2 [ZoC]
def ZyT (b:List UInt8):Dk:=⟨10000,[⟨b,b.length⟩],[(2,0)],[],-1⟩
def sto2:Sto:=Zdy { ZyS with nw:=false }
theorem Zyh:ZaT [ZoC] (ZmK 0,ZfL 10000)=((ZyS,Zvn ZfH),0):=by
 have hn:ZdJ (ZmK 0) (ZfL 10000)=2:=rfl
 have hb:=ZsV
 have hb':ZcM (ZmK 0) [ZoC]=ZfH:=rfl
 have ha:Zaw (ZfL 10000) 2 ZfH=(Zvn ZfH,0):=by
  generalize ZfH=b at hb
  unfold Zaw
  rw[if_neg (show(ZfL 10000).power≠0 by decide),if_neg (by decide),if_neg (by
   show ¬ (((ZcB (ZfL 10000):Nat):Int)+(b.length:Int)>10000)
   have h0:ZcB (ZfL 10000)=0:=rfl
   rw[h0]
   omega)]
  rfl
 have h15:([ZoC].headD Zai).idx=(ZmK 0).next:=rfl
 unfold ZaT
 rw[if_neg (fun h=>h Zyg),if_neg (fun h=>h h15),hn,hb',ha,if_pos rfl]
 rfl
theorem Zzp (b:List UInt8):Zch (ZyS,Zvn b)=((sto2,ZyT b),0):=rfl
theorem hpeD (w:World) (p:Nat):(binOp .eql 26 (ptr p) (.pointer none)).run Tryz.prog w=.ok (.bool false) w:=by kernel_rfl
theorem hpnD (w:World) (p:Nat):(binOp .neq 26 (ptr p) (.pointer none)).run Tryz.prog w=.ok (.bool true) w:=by kernel_rfl
theorem hpeS (w:World) (p:Nat):(binOp .eql 28 (ptr p) (.pointer none)).run Tryz.prog w=.ok (.bool false) w:=by kernel_rfl
theorem Bnd.sz {d:Dk} {N T:Nat} (h:Bnd d N T):SzD d N T:=⟨h.files,h.bytes⟩
theorem Zvo {B pd:Nat} {d:Dk} {N T:Nat} (kind:Int) (w:World) (h:ZxF B w pd d N T) (hB:B<=w.heap.size) (hN:N<=900) (hT:T<=90000) (hNT:N*T<=9000000):
 Calls Tryz.prog 13 #[ptr pd,.int .i64 kind] w fun e w'=>Zvm (fun k=>k<B) w pd d kind N T e w':=by
 obtain⟨hok,hbn⟩:=h.ok
 obtain⟨F,h1,h2⟩:=h
 exact ZqZ kind w h1 (fun k hk hh=>by have:=h2 k hk;omega) (fun k hk=>by omega) (by omega) (by omega) hbn.sz hN hT hNT
theorem ZoD {B:Nat} {w w':World} (h:ZaE (fun k=>¬ k<B) w w') (hB:B<=w.heap.size):Below B w w':=h.below hB (fun k hk=>by omega)
theorem ZwN {B pd:Nat} {d:Dk} {N T:Nat} (kind:Int) (w:World) (h:ZxF B w pd d N T) (hB:B<=w.heap.size) (hN:N<=900) (hT:T<=90000) (hNT:N*T<=9000000) (hE:Zku d kind=0):
 Calls Tryz.prog 13 #[ptr pd,.int .i64 kind] w fun e w'=>∃ p,e=.returned (.tuple #[ptr p,.int .i64 0])∧SD (fun k=>k<B) w' pd p (ZoT d kind) d N T∧Below w.heap.size w w':=
 (Zvo kind w h hB hN hT hNT).mono fun e w' hh=>by
  rcases hh with ⟨h1,-⟩ | ⟨-,p,h2,h3,h4⟩
  ·exact absurd hE h1
  ·exact⟨p,h2,h3,h4⟩
theorem ZwO (W:World):RdR (W.alloc (.cells #[.int .i64 0,.int .i64 0,.int .i64 0,.int .i64 1,.int .i64 1,.int .i64 0,.int .i64 0] 62)) (.slice (some ⟨W.heap.size,0,none⟩) 1 1) [ZoC]:=by
 have h9:=World.ownsRow_lit (base:=0) (e:=62) W (ZdG ZoC) 1 (Nat.zero_le _) (by unfold maxLen;omega) (size:=7) rfl
 have h8:Zbp (W.alloc (.cells (ZdG ZoC) 62)) 0 (.slice (some ⟨W.heap.size,0,none⟩) 1 1) [ZoC]:=by
  unfold Zbp
  have e:Zam [ZoC]=(ZdG ZoC).toList:=by simp[Zam]
  rw[e]
  exact h9
 exact h8.rd (fun r hr=>by
  rw[List.mem_singleton.1 hr]
  exact ZeB (Zyg.2.2.1 ZoC (by simp)))
set_option maxHeartbeats 4000000 in
theorem ZsW (w:World):Calls Tryz.prog 7 #[] w fun e w'=>e=.returned (.bool true)∧Below w.heap.size w w':=by
 obtain⟨B,hB⟩:∃ B,B=w.heap.size:=⟨_,rfl⟩
 have hB0:B<=w.heap.size:=by omega
 rw[<-hB]
 have HN:=ZZ (ZlX B 10000 ⟨by decide,by decide⟩ w hB0)
 have hpe:=hpeD
 have hps:=hpeS
 clear hB
 go_enter Tryz.func7,Tryz.ntmps7
 go_wp2_with fail
 refine HN.out.mono ?_
 rintro e W1 ⟨pd,rfl,hd1,hb1⟩
 have HB1:=ZZ hb1
 have hS1:B<=W1.heap.size:=Nat.le_trans hB0 hb1.size
 have HOP:=ZZ (ZwN 0 W1 hd1 hS1 (by decide) (by decide) (by decide) rfl)
 rw[ZgV] at HOP
 clear hd1 hb1 HN
 go_wp2_with fail
 refine HOP.out.mono ?_
 rintro e W2 ⟨p,rfl,hs2,hb2⟩
 have HS2:=ZZ hs2
 have HB2:=ZZ (HB1.out.trans (hb2.mono hS1))
 have hS2:B<=W2.heap.size:=Nat.le_trans hS1 hb2.size
 clear hs2 hb2 HOP HB1 hS1
 obtain⟨W3,hW3⟩:∃ W3,W3=W2.alloc (.cells #[.int .i64 0,.int .i64 0,.int .i64 0,.int .i64 1,.int .i64 1,.int .i64 0,.int .i64 0] 62):=⟨_,rfl⟩
 have hs3:W3.heap.size=W2.heap.size+1:=by rw[hW3];simp
 have HB23:Hid (Below W2.heap.size W2 W3):=ZZ (by rw[hW3];exact ZcW _ _)
 have HAP:Hid (Calls Tryz.prog 22 #[ptr p,.slice (some ⟨W2.heap.size,0,none⟩) 1 1] W3 fun e w'=>ZjF (fun k=>k<B∨(W2.heap.size<=k∧k<W3.heap.size)) W3 pd p ((ZyS,Zvn ZfH),0) 2 30000 e w'):=ZZ (by
  have h1:=ZeD (.slice (some ⟨W2.heap.size,0,none⟩) 1 1) [ZoC] W3 (HS2.out.fresh HB23.out) (fun k hk=>by
   rcases hk with hk | hk
   ·omega
   ·exact hk.2) (by have:=ZmE (d:=ZfL 10000) (kind:=0) (by decide) (by decide);rw[ZgV] at this;exact this) (by rw[hW3];exact ZwO W2) (.inr fun k hk=>by
   have e:W2.heap.size=k:=Option.some.inj hk
   exact .inr (by omega)) (by decide) (by decide) (by decide) (by decide)
  rw[Zyh] at h1
  exact h1)
 have HW3:=ZZ hW3
 clear hW3 HS2
 go_wp2_with fail
 rw[<-HW3.out]
 refine HAP.out.mono ?_
 rintro e W4 ⟨rfl,hs4,ho4⟩
 have HS4:Hid (SD (fun k=>k<B) W4 pd p ZyS (Zvn ZfH) 2 30000):=ZZ (hs4.less (fun k hk=>.inl hk))
 have HB4:Hid (Below B w W4):=ZZ ((HB2.out.trans (HB23.out.mono hS2)).trans (ZoD (ho4.mono (fun k hk hn=>hk (.inl hn))) (by omega)))
 have hS4:B<=W4.heap.size:=by have:=ho4.size;omega
 clear hs4 ho4 HAP HW3 HB23 HB2 hs3
 have HSY:=ZZ (ZnP W4 HS4.out (fun k hk=>by omega) ⟨by decide,by decide,⟨by decide,by decide⟩,⟨by decide,by decide⟩⟩)
 rw[Zzp] at HSY
 go_wp2_with fail
 refine HSY.out.mono ?_
 rintro e W5 ⟨rfl,hs5,ho5⟩
 have HS5:Hid (SD (fun k=>k<B) W5 pd p sto2 (ZyT ZfH) 6 30000):=ZZ hs5
 have HB5:Hid (Below B w W5):=ZZ (HB4.out.trans (ZoD ho5 hS4))
 have hS5:B<=W5.heap.size:=Nat.le_trans hS4 ho5.size
 clear hs5 ho5 HSY HS4 HB4
 have HNM:Hid (Calls Tryz.prog 28 #[ptr pd] W5 fun e w'=>∃ v,e=.returned v∧Zax w' W5.heap.size v [2]∧Below W5.heap.size W5 w'):=ZZ (by
  obtain⟨F,M,I,L,h1,h2,h3,-⟩:=HS5.out
  exact ZrF (B:=B) W5 ⟨F,h1,fun k hk=>by have:=h3 k hk;omega⟩ (by decide))
 go_wp2_with fail
 refine HNM.out.mono ?_
 rintro e W6 ⟨v6,rfl,ho6,hb6⟩
 have HS6:=ZZ (HS5.out.below hb6)
 have HB6:=ZZ (HB5.out.trans (hb6.mono hS5))
 have hS6:B<=W6.heap.size:=Nat.le_trans hS5 hb6.size
 obtain⟨ao,cap,hv6,-,-,-,-,hc⟩:=ho6.rd (fun n hn=>by rw[List.mem_singleton.1 hn];exact⟨by decide,by decide⟩)
 rcases hc with hc | ⟨bb,off,hao,hc⟩
 ·cases hc
 have HC6:=ZZ (hc 0 (by decide))
 subst hao
 have HV6:Hid (v6=.slice (some ⟨bb,off,none⟩) 1 cap):=ZZ hv6
 have HNX:Hid (Calls Tryz.prog 14 #[ptr p] W6 fun e w'=>e=.returned (.int .i64 1)∧Below W6.heap.size W6 w'):=ZZ (HS6.out.next ⟨by decide,by decide,⟨by decide,by decide⟩,⟨by decide,by decide⟩⟩)
 rw[HV6.out]
 clear hc hv6 ho6 hb6 HNM HS5 HB5
 go_wp2_with fail
 refine HNX.out.mono ?_
 rintro e W7 ⟨rfl,hb7⟩
 have HSN:Hid (Calls Tryz.prog 11 #[ptr p] W7 fun e w'=>e=.returned (.int .i64 1)∧w'=W7):=ZZ (by
  obtain⟨F,M,I,L,h1,h2,-⟩:=HS6.out.below hb7
  exact ZpL W7 h2)
 have c7:W7.cell? ⟨bb,off+0,none⟩=some (.int .i64 2):=by
  have h1:W6.cell? ⟨bb,off+0,none⟩=some (.int .i64 2):=HC6.out
  rw[hb7.cell (p:=⟨bb,off+0,none⟩) (World.block_lt_of_cell? W6 _ h1)]
  exact h1
 have c7':W7.cell? ⟨bb,off,none⟩=some (.int .i64 2):=c7
 have HB7:=ZZ (HB6.out.trans (hb7.mono hS6))
 clear hb7 HNX HS6 HB6 c7
 go_wp2_with fail
 refine HSN.out.mono ?_
 rintro e W8 ⟨rfl,rfl⟩
 go_wp2
 go_ret
 exact⟨by first | rfl | simp,HB7.out⟩
end Go.Proofs.YtnahjngbneicaaaGreatDoor
