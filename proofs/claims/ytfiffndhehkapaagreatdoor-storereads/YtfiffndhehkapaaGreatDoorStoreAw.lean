import Derived.Test.YtfiffndhehkapaaGreatDoorStoreY
import Derived.Test.YtfiffndhehkapaaGreatDoorOpenStore
namespace Go.Proofs.YtfiffndhehkapaaGreatDoor
set_option maxRecDepth 100000
open Go.RowKit
def Zqg:Rec:=⟨0,0,0,⟨1,1,0⟩,0⟩
def ZsY (kind:Int):Sto:=⟨⟨0,[],[]⟩,[Zdz kind],Zdz kind,0,0,false⟩
theorem ZfY (room kind:Int):Zqy (ZlH room) kind=ZsY kind:=by
 have h1:ZiM (ZlH room) kind=ZeA:=rfl
 have h2:Zbp (ZlH room) kind=[Zdz kind]:=rfl
 have h3:ZdZ [Zdz kind]=Zdz kind:=rfl
 unfold Zqy
 rw[h1,h2,h3]
 have h4:ZeA.behind (Zdz kind)=(⟨0,[],[]⟩,Zdz kind):=by
  unfold Lgb.behind
  rw[if_neg (fun h=>h.1 rfl)]
  rfl
 rw[h4]
 rfl
theorem ZsZ {l:List Rec} (h:ZbD l):(Zdy l).length<=20+60*l.length:=by
 obtain⟨h1,h2,h3,h4⟩:=h
 have hr:=Ziv l [] (fun r hr=>by cases hr) h3
 unfold Zdy
 rw[List.length_append,List.length_append]
 have hd:Zaz (l.headD Zaj):=by
  match l,h1 with
  | r::t,_=>exact h3 r List.mem_cons_self
 have q1:(Lib.uvarint (l.headD Zaj).idx.toNat).length<=10:=Zdx (by have:=hd.2.2.1;omega)
 have q2:(Lib.uvarint l.length).length<=10:=Zdx (by omega)
 omega
theorem ZAu:ZbD [Zqg]:=by decide
def Zgz:List UInt8:=Zep (ZsY 0) [Zqg]
theorem ZuZ:Zgz.length<=10000:=by
 have e:Zgz=Zad (ZbB 3 0 0)++Zad (Zdy [Zqg]):=rfl
 rw[e,List.length_append,Zar,Zar]
 have h1:(ZbB 3 0 0).length=4:=by simp[ZbB,ZyG]
 have h2:(Zdy [Zqg]).length<=80:=ZsZ ZAu
 have h3:=ZAG (n:=(ZbB 3 0 0).length) (by omega)
 have h4:=ZAG (n:=(Zdy [Zqg]).length) (by omega)
 omega
def Zxw (b:List UInt8):Dk:=⟨10000,[⟨b,0⟩],[],[.give 2 0],-1⟩
def ZBk:Sto:=Zcd (ZsY 0) 2 [Zqg]
def ZBl (b:List UInt8):Dk:=⟨10000,[⟨b,b.length⟩],[(2,0)],[],-1⟩
def sto2:Sto:=ZeB { ZBk with nw:=false }
theorem ZAv:Zby [Zqg] (ZsY 0,ZlH 10000)=((ZBk,Zxw Zgz),0):=by
 have hn:Zfy (ZsY 0) (ZlH 10000)=2:=rfl
 have hb:=ZuZ
 have hb':Zep (ZsY 0) [Zqg]=Zgz:=rfl
 have ha:ZaI (ZlH 10000) 2 Zgz=(Zxw Zgz,0):=by
  generalize Zgz=b at hb
  unfold ZaI
  rw[if_neg (show(ZlH 10000).power≠0 by decide),if_neg (by decide),if_neg (by
   show ¬ (((ZcF (ZlH 10000):Nat):Int)+(b.length:Int)>10000)
   have h0:ZcF (ZlH 10000)=0:=rfl
   rw[h0]
   omega)]
  rfl
 have h15:([Zqg].headD Zaj).idx=(ZsY 0).next:=rfl
 unfold Zby
 rw[if_neg (fun h=>h ZAu),if_neg (fun h=>h h15),hn,hb',ha,if_pos rfl]
 rfl
theorem ZBF (b:List UInt8):Zcz (ZBk,Zxw b)=((sto2,ZBl b),0):=rfl
theorem hpeD (w:World) (p:Nat):(binOp .eql 26 (ptr p) (.pointer none)).run Tryz.prog w=.ok (.bool false) w:=by kernel_rfl
theorem hpnD (w:World) (p:Nat):(binOp .neq 26 (ptr p) (.pointer none)).run Tryz.prog w=.ok (.bool true) w:=by kernel_rfl
theorem ZBG (w:World) (p:Nat):(binOp .eql 28 (ptr p) (.pointer none)).run Tryz.prog w=.ok (.bool false) w:=by kernel_rfl
theorem Bnd.sz {d:Dk} {N T:Nat} (h:Bnd d N T):SzD d N T:=⟨h.files,h.bytes⟩
theorem Zxx {B pd:Nat} {d:Dk} {N T:Nat} (kind:Int) (w:World) (h:ZzT B w pd d N T) (hB:B<=w.heap.size) (hN:N<=900) (hT:T<=90000) (hNT:N*T<=9000000):
 Calls Tryz.prog 14 #[ptr pd,.int .i64 kind] w fun e w'=>Zxv (fun k=>k<B) w pd d kind N T e w':=by
 obtain⟨hok,hbn⟩:=h.ok
 obtain⟨F,h1,h2⟩:=h
 exact Zzc kind w h1 (fun k hk hh=>by have:=h2 k hk;omega) (fun k hk=>by omega) (by omega) (by omega) hbn.sz hN hT hNT
theorem Zqh {B:Nat} {w w':World} (h:Zas (fun k=>¬ k<B) w w') (hB:B<=w.heap.size):Below B w w':=h.below hB (fun k hk=>by omega)
theorem Zta {B pd:Nat} {d:Dk} {N T:Nat} (kind:Int) (w:World) (h:ZzT B w pd d N T) (hB:B<=w.heap.size) (hN:N<=900) (hT:T<=90000) (hNT:N*T<=9000000) (hE:Znp d kind=0):
 Calls Tryz.prog 14 #[ptr pd,.int .i64 kind] w fun e w'=>∃ p,e=.returned (.tuple #[ptr p,.int .i64 0])∧SD (fun k=>k<B) w' pd p (Zqy d kind) d N T∧Below w.heap.size w w':=
 (Zxx kind w h hB hN hT hNT).mono fun e w' hh=>by
  rcases hh with ⟨h1,-⟩ | ⟨-,p,h2,h3,h4⟩
  ·exact absurd hE h1
  ·exact⟨p,h2,h3,h4⟩
theorem Zzd (W:World):RdR (W.alloc (.cells #[.int .i64 0,.int .i64 0,.int .i64 0,.int .i64 1,.int .i64 1,.int .i64 0,.int .i64 0] 63)) (.slice (some ⟨W.heap.size,0,none⟩) 1 1) [Zqg]:=by
 have h9:=World.ownsRow_lit (base:=0) (e:=63) W (Zei Zqg) 1 (Nat.zero_le _) (by unfold maxLen;omega) (size:=7) rfl
 have h8:Zbm (W.alloc (.cells (Zei Zqg) 63)) 0 (.slice (some ⟨W.heap.size,0,none⟩) 1 1) [Zqg]:=by
  unfold Zbm
  have e:Zan [Zqg]=(Zei Zqg).toList:=by simp[Zan]
  rw[e]
  exact h9
 exact h8.rd (fun r hr=>by
  rw[List.mem_singleton.1 hr]
  exact ZdL (ZAu.2.2.1 Zqg (by simp)))
set_option maxHeartbeats 4000000 in
theorem Zva (w:World):Calls Tryz.prog 8 #[] w fun e w'=>e=.returned (.bool true)∧Below w.heap.size w w':=by
 obtain⟨B,hB⟩:∃ B,B=w.heap.size:=⟨_,rfl⟩
 have hB0:B<=w.heap.size:=by omega
 rw[<-hB]
 have HN:=ZZ (ZsC B 10000 ⟨by decide,by decide⟩ w hB0)
 have hpe:=hpeD
 have hps:=ZBG
 clear hB
 go_enter Tryz.func8,Tryz.ntmps8
 go_wp2_with fail
 refine HN.out.mono ?_
 rintro e W1 ⟨pd,rfl,hd1,hb1⟩
 have HB1:=ZZ hb1
 have hS1:B<=W1.heap.size:=Nat.le_trans hB0 hb1.size
 have HOP:=ZZ (Zta 0 W1 hd1 hS1 (by decide) (by decide) (by decide) rfl)
 rw[ZfY] at HOP
 clear hd1 hb1 HN
 go_wp2_with fail
 refine HOP.out.mono ?_
 rintro e W2 ⟨p,rfl,hs2,hb2⟩
 have HS2:=ZZ hs2
 have HB2:=ZZ (HB1.out.trans (hb2.mono hS1))
 have hS2:B<=W2.heap.size:=Nat.le_trans hS1 hb2.size
 clear hs2 hb2 HOP HB1 hS1
 obtain⟨W3,hW3⟩:∃ W3,W3=W2.alloc (.cells #[.int .i64 0,.int .i64 0,.int .i64 0,.int .i64 1,.int .i64 1,.int .i64 0,.int .i64 0] 63):=⟨_,rfl⟩
 have hs3:W3.heap.size=W2.heap.size+1:=by rw[hW3];simp
 have HB23:Hid (Below W2.heap.size W2 W3):=ZZ (by rw[hW3];exact ZcY _ _)
 have HAP:Hid (Calls Tryz.prog 23 #[ptr p,.slice (some ⟨W2.heap.size,0,none⟩) 1 1] W3 fun e w'=>ZeU (fun k=>k<B∨(W2.heap.size<=k∧k<W3.heap.size)) W3 pd p ((ZBk,Zxw Zgz),0) 2 30000 e w'):=ZZ (by
  have h1:=Zla (.slice (some ⟨W2.heap.size,0,none⟩) 1 1) [Zqg] W3 (HS2.out.fresh HB23.out) (fun k hk=>by
   rcases hk with hk | hk
   ·omega
   ·exact hk.2) (by have:=Zjz (d:=ZlH 10000) (kind:=0) (by decide) (by decide);rw[ZfY] at this;exact this) (by rw[hW3];exact Zzd W2) (.inr fun k hk=>by
   have e:W2.heap.size=k:=Option.some.inj hk
   exact .inr (by omega)) (by decide) (by decide) (by decide) (by decide)
  rw[ZAv] at h1
  exact h1)
 have HW3:=ZZ hW3
 clear hW3 HS2
 go_wp2_with fail
 rw[<-HW3.out]
 refine HAP.out.mono ?_
 rintro e W4 ⟨rfl,hs4,ho4⟩
 have HS4:Hid (SD (fun k=>k<B) W4 pd p ZBk (Zxw Zgz) 2 30000):=ZZ (hs4.less (fun k hk=>.inl hk))
 have HB4:Hid (Below B w W4):=ZZ ((HB2.out.trans (HB23.out.mono hS2)).trans (Zqh (ho4.mono (fun k hk hn=>hk (.inl hn))) (by omega)))
 have hS4:B<=W4.heap.size:=by have:=ho4.size;omega
 clear hs4 ho4 HAP HW3 HB23 HB2 hs3
 have HSY:=ZZ (ZhE W4 HS4.out (fun k hk=>by omega) ⟨by decide,by decide,⟨by decide,by decide⟩,⟨by decide,by decide⟩⟩)
 rw[ZBF] at HSY
 go_wp2_with fail
 refine HSY.out.mono ?_
 rintro e W5 ⟨rfl,hs5,ho5⟩
 have HS5:Hid (SD (fun k=>k<B) W5 pd p sto2 (ZBl Zgz) 6 30000):=ZZ hs5
 have HB5:Hid (Below B w W5):=ZZ (HB4.out.trans (Zqh ho5 hS4))
 have hS5:B<=W5.heap.size:=Nat.le_trans hS4 ho5.size
 clear hs5 ho5 HSY HS4 HB4
 have HNM:Hid (Calls Tryz.prog 29 #[ptr pd] W5 fun e w'=>∃ v,e=.returned v∧ZaA w' W5.heap.size v [2]∧Below W5.heap.size W5 w'):=ZZ (by
  obtain⟨F,M,I,L,h1,h2,h3,-⟩:=HS5.out
  exact ZtN (B:=B) W5 ⟨F,h1,fun k hk=>by have:=h3 k hk;omega⟩ (by decide))
 go_wp2_with fail
 refine HNM.out.mono ?_
 rintro e W6 ⟨v6,rfl,ho6,hb6⟩
 have HS6:=ZZ (HS5.out.below hb6)
 have HB6:=ZZ (HB5.out.trans (hb6.mono hS5))
 have hS6:B<=W6.heap.size:=Nat.le_trans hS5 hb6.size
 obtain⟨ao,cap,hv6,-,-,-,-,hc⟩:=ho6.rd (fun n hn=>by rw[List.mem_singleton.1 hn];exact⟨by decide,by decide⟩)
 rcases hc with hc | ⟨bb,off,hao,hc⟩
 ·cases hc
 have HC6:=ZZ (hc 0 (by decide))
 subst hao
 have HV6:Hid (v6=.slice (some ⟨bb,off,none⟩) 1 cap):=ZZ hv6
 have HNX:Hid (Calls Tryz.prog 15 #[ptr p] W6 fun e w'=>e=.returned (.int .i64 1)∧Below W6.heap.size W6 w'):=ZZ (HS6.out.next ⟨by decide,by decide,⟨by decide,by decide⟩,⟨by decide,by decide⟩⟩)
 rw[HV6.out]
 clear hc hv6 ho6 hb6 HNM HS5 HB5
 go_wp2_with fail
 refine HNX.out.mono ?_
 rintro e W7 ⟨rfl,hb7⟩
 have HSN:Hid (Calls Tryz.prog 12 #[ptr p] W7 fun e w'=>e=.returned (.int .i64 1)∧w'=W7):=ZZ (by
  obtain⟨F,M,I,L,h1,h2,-⟩:=HS6.out.below hb7
  exact Zrq W7 h2)
 have c7:W7.cell? ⟨bb,off+0,none⟩=some (.int .i64 2):=by
  have h1:W6.cell? ⟨bb,off+0,none⟩=some (.int .i64 2):=HC6.out
  rw[hb7.cell (p:=⟨bb,off+0,none⟩) (World.block_lt_of_cell? W6 _ h1)]
  exact h1
 have c7':W7.cell? ⟨bb,off,none⟩=some (.int .i64 2):=c7
 have HB7:=ZZ (HB6.out.trans (hb7.mono hS6))
 clear hb7 HNX HS6 HB6 c7
 go_wp2_with fail
 refine HSN.out.mono ?_
 rintro e W8 ⟨rfl,rfl⟩
 go_wp2
 go_ret
 exact⟨by first | rfl | simp,HB7.out⟩
end Go.Proofs.YtfiffndhehkapaaGreatDoor
