import Derived.Test.YtnahjngbneicaaaGreatDoorStoreX
namespace Go.Proofs.YtnahjngbneicaaaGreatDoor
set_option maxRecDepth 100000
open Go.RowKit
def Zqs (b:List ZaX):Sto:=⟨ZdZ,b,Zbb,0,0,false⟩
def Zte (pd:Nat) (bv:Value):Array Value:=
 #[ptr pd,.int .i64 0,.slice none 0 0,.slice none 0 0,bv,.int .i64 0,.int .i64 0,.slice none 0 0,.bool false,.int .i64 0,.slice none 0 0,.int .i64 0,.int .i64 0,.bool false]
theorem Zvk {w W1:World} {I:Nat->Prop} {v0:Value} {l0:List Int} {bv:Value} {bs:List (ZaX × Value × Value)} {bases:List ZaX} (pd:Nat) (h:Zcu w I v0 l0 bv bs W1) (he:bs.map Prod.fst=bases):
 ZeO (fun k=>k=W1.heap.size∨bv.ownBlock=some k) I (W1.alloc (.cells (Zte pd bv) 76)) W1.heap.size pd ⟨.slice none 0 0,.slice none 0 0,bv,.slice none 0 0,.slice none 0 0,bs⟩ (Zqs bases):=by
 have hb:=ZcW W1 (.cells (Zte pd bv) 76)
 have hs:(W1.alloc (.cells (Zte pd bv) 76)).heap.size=W1.heap.size+1:=by simp
 have h2:=h.below hb
 refine⟨heap_alloc_new W1 _,Zbp.nil _ _,World.ownsRow_nil _ _ _ _,h2.row,he,⟨RdI.nil _,RdE.nil _,(Zaj (by decide) (by decide):I64 0),(Zaj (by decide) (by decide):I64 0),(Zaj (by decide) (by decide):I64 0)⟩,h2.each,.inl rfl,(fun g hg=>by cases hg),(fun g hg=>by cases hg),fun g hg=>.inr hg,⟨.inl rfl,.inl rfl⟩,h2.ibs,fun k hk=>?_,h2.ltI,fun k hk hi=>?_⟩
 ·rcases hk with hk | hk
  ·omega
  ·exact h2.ltB k hk
 ·rcases hk with hk | hk
  ·have:=h.ltI k hi
   omega
  ·exact h.dis k hi hk
def ZoB (W:World) (p:Nat) (f rv pv x0 x1 x2 x3 x4 x5:Value):World:=
 ((((((((W.setCell ⟨p,1,none⟩ f).setCell ⟨p,2,none⟩ rv).setCell ⟨p,3,none⟩ pv).setCell ⟨p,5,none⟩ x0).setCell ⟨p,6,none⟩ x1).setCell ⟨p,7,none⟩ x2).setCell ⟨p,8,none⟩ x3).setCell ⟨p,9,none⟩ x4).setCell ⟨p,10,none⟩ x5
theorem Zly (W:World) (p:Nat) (f rv pv x0 x1 x2 x3 x4 x5:Value):ZaE (fun k=>k=p) W (ZoB W p f rv pv x0 x1 x2 x3 x4 x5):=by
 have hp:p<W.heap.size->(fun k=>k=p) p:=fun _=>rfl
 exact(((((((((ZaE.refl (fun k=>k=p) W).setCell 1 hp f).setCell 2 hp rv).setCell 3 hp pv).setCell 5 hp x0).setCell 6 hp x1).setCell 7 hp x2).setCell 8 hp x3).setCell 9 hp x4).setCell 10 hp x5
theorem ZsU {W:World} {p pd:Nat} {bv:Value} (h:Bk 76 W p (Zte pd bv)) (f rv pv x0 x1 x2 x3 x4 x5:Value):Bk 76 (ZoB W p f rv pv x0 x1 x2 x3 x4 x5) p #[ptr pd,f,rv,pv,bv,x0,x1,x2,x3,x4,x5,.int .i64 0,.int .i64 0,.bool false]:=by
 have h1:=((((((((h.set 1 f).set 2 rv).set 3 pv).set 5 x0).set 6 x1).set 7 x2).set 8 x3).set 9 x4).set 10 x5
 simp only [Zte,List.setIfInBounds_toArray,List.set_cons_zero,List.set_cons_succ] at h1
 unfold ZoB
 exact h1
theorem Zvl {w W1 W2 W4 W5:World} {I:Nat->Prop} {v0:Value} {l0:List Int} {bv rv pv vl vt:Value} {bs:List (ZaX × Value × Value)} {bases:List ZaX} {r:Lgb × ZaX} (pd:Nat) (h:Zcu w I v0 l0 bv bs W1) (he:bs.map Prod.fst=bases) (hW2:W2=W1.alloc (.cells (Zte pd bv) 76))
 (hb4:Below W2.heap.size W2 W4) (hb5:Below W4.heap.size W4 W5) (hr:Zbp W5 0 rv r.1.recs) (hp:W5.ownsRow 0 108 3 pv r.1.pcs.length (ZaB r.1.pcs)) (hrb:∀ k,rv.ownBlock=some k->W2.heap.size<=k∧k<W4.heap.size) (hpb:∀ k,pv.ownBlock=some k->W2.heap.size<=k∧k<W4.heap.size)
 (hn:SnR W5 (r.2,vl,vt)) (hi:ZmJ (fun k=>I k∨(W4.heap.size<=k∧k<W5.heap.size)) (r.2,vl,vt)):
 ZeO (fun k=>k=W1.heap.size∨rv.ownBlock=some k∨pv.ownBlock=some k∨bv.ownBlock=some k) (fun k=>I k∨(W4.heap.size<=k∧k<W5.heap.size)) (ZoB W5 W1.heap.size (.int .i64 r.1.first) rv pv (.int .i64 r.2.idx) (.int .i64 r.2.st.kind) vl (.bool r.2.st.shut) (.int .i64 r.2.st.eng) vt) W1.heap.size pd ⟨rv,pv,bv,vl,vt,bs⟩ ⟨r.1,bases,r.2,0,0,false⟩:=by
 have hb2:Below W1.heap.size W1 W2:=by rw[hW2];exact ZcW _ _
 have hs2:W2.heap.size=W1.heap.size+1:=by rw[hW2];simp
 have h4:=hb4.size
 have h5:=hb5.size
 have hb25:Below W2.heap.size W2 W5:=hb4.trans (hb5.mono hb4.size)
 have hb15:Below W1.heap.size W1 W5:=hb2.trans (hb25.mono hb2.size)
 have hB5:=h.below hb15
 have hhead5:Bk 76 W5 W1.heap.size (Zte pd bv):=by
  have h0:Bk 76 W2 W1.heap.size (Zte pd bv):=by rw[hW2];exact heap_alloc_new W1 _
  exact h0.keep (hb25.block _ (by omega))
 have ho:=Zly W5 W1.heap.size (.int .i64 r.1.first) rv pv (.int .i64 r.2.idx) (.int .i64 r.2.st.kind) vl (.bool r.2.st.shut) (.int .i64 r.2.st.eng) vt
 have hhead:Bk 76 (ZoB W5 W1.heap.size (.int .i64 r.1.first) rv pv (.int .i64 r.2.idx) (.int .i64 r.2.st.kind) vl (.bool r.2.st.shut) (.int .i64 r.2.st.eng) vt) W1.heap.size (stC pd ⟨rv,pv,bv,vl,vt,bs⟩ ⟨r.1,bases,r.2,0,0,false⟩):=
  ZsU hhead5 _ _ _ _ _ _ _ _ _
 obtain⟨W6,hW6⟩:∃ W6,W6=ZoB W5 W1.heap.size (.int .i64 r.1.first) rv pv (.int .i64 r.2.idx) (.int .i64 r.2.st.kind) vl (.bool r.2.st.shut) (.int .i64 r.2.st.eng) vt:=⟨_,rfl⟩
 rw[<-hW6] at ho hhead ⊢
 have hs6:=ho.size
 have hk:∀ k,k<W5.heap.size->k≠W1.heap.size->W6.heap[k]?=W5.heap[k]?:=fun k h1 h2=>ho.block k h1 h2
 have hIk:∀ k,(I k∨(W4.heap.size<=k∧k<W5.heap.size))->k<W5.heap.size∧k≠W1.heap.size:=fun k hk'=>by
  rcases hk' with hk' | hk'
  ·have:=h.ltI k hk'
   omega
  ·omega
 refine⟨hhead,Zah hr fun k hk'=>hk k (by have:=hrb k hk';omega) (by have:=hrb k hk';omega),Zah hp fun k hk'=>hk k (by have:=hpb k hk';omega) (by have:=hpb k hk';omega),Zah hB5.row fun k hk'=>hk k (hB5.ltB k hk') (by have:=h.ltB k hk';omega),he,?_,?_,.inl rfl,fun k hk'=>.inr (.inl hk'),fun k hk'=>.inr (.inr (.inl hk')),fun k hk'=>.inr (.inr (.inr hk')),hi,fun x hx=>(h.ibs x hx).mono (fun k hk'=>.inl hk'),fun k hk'=>?_,fun k hk'=>?_,fun k hk' hi'=>?_⟩
 ·exact hn.keep hi fun k hk'=>hk k (hIk k hk').1 (hIk k hk').2
 ·exact fun x hx=>(hB5.each x hx).keep (h.ibs x hx) fun k hk'=>hk k (hIk k (.inl hk')).1 (hIk k (.inl hk')).2
 ·rcases hk' with hk' | hk' | hk' | hk'
  ·omega
  ·have:=hrb k hk';omega
  ·have:=hpb k hk';omega
  ·have:=h.ltB k hk';omega
 ·have:=(hIk k hk').1
  omega
 ·rcases hk' with hk' | hk' | hk' | hk'
  ·exact(hIk k hi').2 hk'
  ·have:=hrb k hk'
   rcases hi' with hi' | hi'
   ·have:=h.ltI k hi';omega
   ·omega
  ·have:=hpb k hk'
   rcases hi' with hi' | hi'
   ·have:=h.ltI k hi';omega
   ·omega
  ·rcases hi' with hi' | hi'
   ·exact h.dis k hi' hk'
   ·have:=h.ltB k hk';omega
theorem ZmG {w:World} {B n s:Nat} {t:TypeId} {v:Value} {xs:List Value} (h:w.ownsRow B t s v n xs):w.ownsRow 0 t s v n xs:=ZeG h fun _ _=>Nat.zero_le _
def Zvm (K:Nat->Prop) (w:World) (pd:Nat) (d:Dk) (kind:Int) (N T:Nat) (e:Ending) (w':World):Prop:=
 (Zku d kind≠0∧e=.returned (.tuple #[.pointer none,.int .i64 (Zku d kind)])∧w'=w)∨
 (Zku d kind=0∧∃ p,e=.returned (.tuple #[ptr p,.int .i64 0])∧SD K w' pd p (ZoT d kind) d N T∧Below w.heap.size w w')
theorem Zqt (d:Dk) (kind:Int):(kind<0∨6<=kind)∧Zku d kind=1∨(0<=kind∧kind<6∧d.power=0∧Zku d kind=11)∨(0<=kind∧kind<6∧d.power≠0∧Zku d kind=0):=by
 unfold Zku
 by_cases h:kind<0∨6<=kind
 ·exact .inl ⟨h,if_pos h⟩
 ·rw[if_neg h]
  by_cases h2:d.power=0
  ·exact .inr (.inl ⟨by omega,by omega,h2,if_pos h2⟩)
  ·exact .inr (.inr ⟨by omega,by omega,h2,if_neg h2⟩)
set_option maxHeartbeats 4000000 in
theorem ZqZ {K F:Nat->Prop} {pd:Nat} {d:Dk} {N T Fn Bn:Nat} (kind:Int) (w:World) (h:Dsk F w pd d N T) (hFK:∀ k,F k->¬ K k) (hK:∀ k,K k->k<w.heap.size) (hN:N<=1000000) (hT:T<=1000000000) (hz:SzD d Fn Bn) (hFn:Fn<=900) (hBn:Bn<=90000) (hFB:Fn*Bn<=9000000):
 Calls Tryz.prog 13 #[ptr pd,.int .i64 kind] w fun e w'=>Zvm K w pd d kind N T e w':=by
 rcases Zqt d kind with ⟨hk,hE⟩ | ⟨hk0,hk1,hpw,hE⟩ | ⟨hk0,hk1,hpw,hE⟩
 ·have HE:Hid (Zvm K w pd d kind N T (.returned (.tuple #[.pointer none,.int .i64 1])) w):=ZZ (.inl ⟨by rw[hE];decide,by rw[hE],rfl⟩)
  clear h hz hE
  by_cases h1:kind<0
  ·have hb1:decide (kind<0)=true:=decide_eq_true h1
   go_enter Tryz.func13,Tryz.ntmps13
   go_wp2
   go_ret2
   exact HE.out
  ·have hb1:decide (kind<0)=false:=decide_eq_false h1
   have hb2:decide (kind ≥ 6)=true:=decide_eq_true (by omega)
   go_enter Tryz.func13,Tryz.ntmps13
   go_wp2
   go_ret2
   exact HE.out
 ·have HE:Hid (Zvm K w pd d kind N T (.returned (.tuple #[.pointer none,.int .i64 11])) w):=ZZ (.inl ⟨by rw[hE];decide,by rw[hE],rfl⟩)
  have HON:Hid (Calls Tryz.prog 33 #[ptr pd] w fun e w'=>e=.returned (.bool false)∧w'=w):=ZZ (by
   obtain⟨L,h1,-⟩:=h
   have:=Znh w h1
   rw[show(d.power != 0)=false by rw[hpw];rfl] at this
   exact this)
  have hb1:decide (kind<0)=false:=decide_eq_false (by omega)
  have hb2:decide (kind ≥ 6)=false:=decide_eq_false (by omega)
  clear h hz hE hpw
  go_enter Tryz.func13,Tryz.ntmps13
  go_wp2_with fail
  refine HON.out.mono ?_
  rintro e W1 ⟨rfl,rfl⟩
  go_wp2
  go_ret2
  exact HE.out
 ·have HON:Hid (Calls Tryz.prog 33 #[ptr pd] w fun e w'=>e=.returned (.bool true)∧w'=w):=ZZ (by
   obtain⟨L,h1,-⟩:=h
   have:=Znh w h1
   rw[show(d.power != 0)=true by rw[bne_iff_ne];exact hpw] at this
   exact this)
  have hb1:decide (kind<0)=false:=decide_eq_false (by omega)
  have hb2:decide (kind ≥ 6)=false:=decide_eq_false (by omega)
  have hok:OkD d:=by obtain⟨L,-,h2,-⟩:=h;exact h2
  have hlen:∀ n,(Zcv d n).1.length<=90000:=fun n=>Nat.le_trans (hz.read n) hBn
  have HRB:=ZZ (ZmD kind w h hN hT hlen)
  have HRL:=ZZ (fun W (hb:Below w.heap.size w W)=>Zqe kind W (h.below hb) hN hT hk0 hk1 hlen (fun n f l hs=>Zvb hs) (ZwI kind hz hok hFn hFB))
  have HBH:=ZZ (fun(I:Nat->Prop) rv pv x W hr hp hx hi hlt hs=>ZsT I (ZhS d kind) rv pv x W hr hp hx hi hlt (ZqX d kind) hs (by
   have h1:=(Zlw kind hz hok).1
   omega) (by have:=(Zlw kind hz hok).2;omega))
  have HBN:Hid ((Zbe d kind).length≠0∧(Zbe d kind).length<=1000∧∀ x ∈ Zbe d kind,SnS x):=ZZ ⟨fun e=>(ZhH (d:=d) hk0 hk1).2 (List.eq_nil_of_length_eq_zero e),by have:=ZsN (kind:=kind) hz hok;omega,fun x hx=>((ZhH (d:=d) hk0 hk1).1 x hx).1.snS⟩
  have HOK:=ZZ (ZmE (d:=d) hk0 hk1)
  have HD:=ZZ h
  have HFK:=ZZ (And.intro hFK hK)
  have HEE:=ZZ hE
  obtain⟨SS,hSS⟩:∃ SS,SS=ZoT d kind:=⟨_,rfl⟩
  have HSS:Hid (SS=⟨((ZhS d kind).behind (Zdx (Zbe d kind))).1,Zbe d kind,((ZhS d kind).behind (Zdx (Zbe d kind))).2,((ZhS d kind).behind (Zdx (Zbe d kind))).1.next,0,false⟩):=ZZ hSS
  rw[<-hSS] at HOK
  unfold Zvm
  rw[<-hSS]
  clear h hz hpw hok hlen hE hFK hK hSS
  go_enter Tryz.func13,Tryz.ntmps13
  go_wp2_with fail
  refine HON.out.mono ?_
  rintro e W0 ⟨rfl,rfl⟩
  go_wp2_with fail
  refine HRB.out.mono ?_
  rintro e W1 ⟨bv,bs,I,v0,l0,rfl,hbs,hB⟩
  have HB:=ZZ (And.intro hB hbs)
  obtain⟨ba,bc,hbv⟩:=Zeb hB.row
  generalize hbn:bs.length=bn at hbv
  clear hbn
  subst hbv
  obtain⟨W2,hW2⟩:∃ W2,W2=W1.alloc (.cells (Zte pd (.slice ba bn bc)) 76):=⟨_,rfl⟩
  have HW2:=ZZ hW2
  have HB12:Hid (Below W1.heap.size W1 W2):=ZZ (by rw[hW2];exact ZcW _ _)
  have HB02:Hid (Below W0.heap.size W0 W2):=ZZ (hB.old.trans (HB12.out.mono hB.old.size))
  have HZ2:Hid (ZeO (fun k=>k=W1.heap.size∨(Value.slice ba bn bc).ownBlock=some k) I W2 W1.heap.size pd ⟨.slice none 0 0,.slice none 0 0,.slice ba bn bc,.slice none 0 0,.slice none 0 0,bs⟩ (Zqs (Zbe d kind))):=ZZ (by rw[hW2];exact Zvk pd hB hbs)
  have hs2:W2.heap.size=W1.heap.size+1:=by rw[hW2];simp
  have HS2:=ZZ hs2
  unfold Zte at hW2
  clear hB hbs HRB HON hs2
  go_upto_region 6 with fail
  rw[<-hW2]
  clear hW2
  go_wp2_with fail
  refine(HRL.out W2 HB02.out).mono ?_
  rintro e W3 ⟨rv,pv,rfl,hr3,hp3,hb3⟩
  have HB3:=ZZ hb3
  have HR3:=ZZ hr3
  have HP3:=ZZ hp3
  have HBA:=ZZ (Zwj W3 (HZ2.out.below hb3) (by exact HBN.out.1) (by have:=HBN.out.2.1;exact Nat.le_trans this (by decide)))
  obtain⟨ra,rc,hrv⟩:=hr3.shape
  obtain⟨pa,pc,hpv⟩:=Zeb hp3
  generalize hrn:(ZhS d kind).recs.length=rn at hrv
  generalize hpn:(ZhS d kind).pcs.length=pn at hpv
  clear hrn hpn hr3 hp3 hb3 HRL
  subst hrv hpv
  obtain⟨x,hx⟩:∃ x,x=ZgH bs:=⟨_,rfl⟩
  have HXM:Hid (x ∈ bs∧x.1=Zdx (Zbe d kind)):=ZZ (by
   rw[hx]
   refine⟨ZnJ ?_,?_⟩
   ·intro e
    have:=HBN.out.1
    rw[<-HB.out.2,List.length_map] at this
    exact this e
   ·have:=ZrY (L:=⟨.slice none 0 0,.slice none 0 0,.slice ba bn bc,.slice none 0 0,.slice none 0 0,bs⟩) (s:=Zqs (Zbe d kind)) HB.out.2
    exact this)
  have HBA2:Hid (Calls Tryz.prog 37 #[ptr W1.heap.size] W3 fun e w'=>e=.returned (snV x)∧Below W3.heap.size W3 w'):=ZZ (by rw[hx];exact HBA.out)
  clear HBA hx
  generalize hsx:snV x=sx at HBA2
  have HSX:=ZZ hsx
  clear hsx
  go_wp2_with fail
  refine HBA2.out.mono ?_
  rintro e W4 ⟨rfl,hb4⟩
  have HB34:=ZZ hb4
  have HB24:Hid (Below W2.heap.size W2 W4):=ZZ (HB3.out.trans (hb4.mono HB3.out.size))
  clear hb4 HBA2
  have HCB:Hid (Calls Tryz.prog 36 #[.agg #[.int .i64 (ZhS d kind).first,.slice ra rn rc,.slice pa pn pc],sx] W4 fun e w'=>ZeI I W4 (.slice ra rn rc) (.slice pa pn pc) ((ZhS d kind).behind (Zdx (Zbe d kind))) e w'):=ZZ (by
   have hB4:=HB.out.1.below (HB12.out.trans (HB24.out.mono HB12.out.size))
   rw[<-HXM.out.2,<-HSX.out]
   exact HBH.out I _ _ x W4 ((HR3.out.below HB34.out zL).own0) (Zah (ZmG HP3.out) fun k hk=>HB34.out.block k (World.ownsRow.lt HP3.out k hk).2) (hB4.each x HXM.out.1) (HB.out.1.ibs x HXM.out.1) hB4.ltI (HBN.out.2.2 _ (by rw[<-HB.out.2];exact List.mem_map.2 ⟨x,HXM.out.1,rfl⟩)))
  generalize hgf:(ZhS d kind).first=gf at *
  go_wp2_with fail
  refine HCB.out.mono ?_
  rintro e W5 ⟨rv5,pv5,vl5,vt5,rfl,hr5,hp5,hrv5,hpv5,hn5,hi5,hb5⟩
  obtain⟨R,hR⟩:∃ R,R=(ZhS d kind).behind (Zdx (Zbe d kind)):=⟨_,rfl⟩
  rw[<-hR] at HSS hr5 hp5 hn5 hi5
  rw[<-hR]
  have hrb:∀ k,rv5.ownBlock=some k->W2.heap.size<=k∧k<W4.heap.size:=fun k hk=>by
   rcases hrv5 with e | e
   ·rw[e] at hk
    have h1:=World.ownsRow.lt HR3.out k hk
    have:=HB34.out.size
    omega
   ·rw[e] at hk;cases hk
  have hpb:∀ k,pv5.ownBlock=some k->W2.heap.size<=k∧k<W4.heap.size:=fun k hk=>by
   rcases hpv5 with e | e
   ·rw[e] at hk
    have h1:=World.ownsRow.lt HP3.out k hk
    have:=HB34.out.size
    omega
   ·rw[e] at hk;cases hk
  have hST:=Zvl pd HB.out.1 HB.out.2 HW2.out HB24.out hb5 hr5 hp5 hrb hpb hn5 hi5
  obtain⟨ra5,rc5,hrv⟩:=hr5.shape
  obtain⟨pa5,pc5,hpv⟩:=Zeb hp5
  obtain⟨la,ln,lc,ta,tn,tc,hvl,hvt⟩:=hn5.shape
  dsimp only at hvl hvt
  generalize hrn:R.1.recs.length=rn5 at hrv
  generalize hpn:R.1.pcs.length=pn5 at hpv
  clear hrn hpn hr5 hp5 hn5 hi5 hrv5 hpv5
  subst hrv hpv hvl hvt
  have HB25:Hid (Below W2.heap.size W2 W5):=ZZ (HB24.out.trans (hb5.mono HB24.out.size))
  have HH5:Hid (Bk 76 W5 W1.heap.size (Zte pd (.slice ba bn bc))):=ZZ (by
   have h0:Bk 76 W2 W1.heap.size (Zte pd (.slice ba bn bc)):=by rw[HW2.out];exact heap_alloc_new W1 _
   exact h0.keep (HB25.out.block _ (by have:=HS2.out;omega)))
  obtain⟨W6,hW6⟩:∃ W6,W6=ZoB W5 W1.heap.size (.int .i64 R.1.first) (.slice ra5 rn5 rc5) (.slice pa5 pn5 pc5) (.int .i64 R.2.idx) (.int .i64 R.2.st.kind) (.slice la ln lc) (.bool R.2.st.shut) (.int .i64 R.2.st.eng) (.slice ta tn tc):=⟨_,rfl⟩
  have HO6:Hid (ZaE (fun k=>k=W1.heap.size) W5 W6):=ZZ (by rw[hW6];exact Zly _ _ _ _ _ _ _ _ _ _ _)
  rw[<-hW6] at hST
  have HS1:Hid (W0.heap.size<=W1.heap.size):=ZZ HB.out.1.old.size
  have HB05:Hid (Below W0.heap.size W0 W5):=ZZ (HB02.out.trans (HB25.out.mono HB02.out.size))
  have HB06:Hid (Below W0.heap.size W0 W6):=ZZ (HB05.out.trans (HO6.out.below HB05.out.size (fun k hk=>by rw[hk];exact HS1.out)))
  have HSD:Hid (SD K W6 pd W1.heap.size ⟨R.1,Zbe d kind,R.2,0,0,false⟩ d N T):=ZZ (by
   have hz1:=HS1.out
   have hz2:=HS2.out
   have hz3:=HB24.out.size
   have hM:∀ k,(k=W1.heap.size∨(Value.slice ra5 rn5 rc5).ownBlock=some k∨(Value.slice pa5 pn5 pc5).ownBlock=some k∨(Value.slice ba bn bc).ownBlock=some k)->W0.heap.size<=k:=fun k hk=>by
    rcases hk with hk | hk | hk | hk
    ·omega
    ·have:=hrb k hk;omega
    ·have:=hpb k hk;omega
    ·exact HB.out.1.far k hk
   have hI:∀ k,(I k∨(W4.heap.size<=k∧k<W5.heap.size))->W0.heap.size<=k:=fun k hk=>by
    rcases hk with hk | hk
    ·exact HB.out.1.lo k hk
    ·omega
   refine⟨F,_,_,_,HD.out.below HB06.out,hST,HFK.out.1,fun k hk hh=>?_,fun k hk hh=>?_,fun k hk hh=>?_,fun k hk hh=>?_⟩
   ·have:=hM k hk;have:=HFK.out.2 k hh;omega
   ·have:=hI k hk;have:=HFK.out.2 k hh;omega
   ·have:=hM k hh;have:=HD.out.ltF k hk;omega
   ·have:=hI k hh;have:=HD.out.ltF k hk;omega)
  have HNS:Hid (Ztd ⟨R.1,Zbe d kind,R.2,0,0,false⟩):=ZZ (by
   have h1:=HOK.out.num
   rw[HSS.out] at h1
   exact⟨h1.f0,h1.f1,(Zaj (by decide) (by decide):I64 0),(Zaj (by decide) (by decide):I64 0)⟩)
  have HNX:=ZZ (HSD.out.next HNS.out)
  have HNE:Hid ((⟨R.1,Zbe d kind,R.2,0,0,false⟩:Sto).next=R.1.next):=ZZ rfl
  rw[HNE.out] at HNX
  obtain⟨z1,y1⟩:=HH5.out.cell 1 rfl
  obtain⟨z2,y2⟩:=HH5.out.cell 2 rfl
  obtain⟨z3,y3⟩:=HH5.out.cell 3 rfl
  obtain⟨z5,y5⟩:=HH5.out.cell 5 rfl
  obtain⟨z6,y6⟩:=HH5.out.cell 6 rfl
  obtain⟨z7,y7⟩:=HH5.out.cell 7 rfl
  obtain⟨z8,y8⟩:=HH5.out.cell 8 rfl
  obtain⟨z9,y9⟩:=HH5.out.cell 9 rfl
  obtain⟨z10,y10⟩:=HH5.out.cell 10 rfl
  unfold snV snC
  dsimp only
  unfold ZoB at hW6
  clear hST hrb hpb hb5 HCB HBH hR HB HZ2 HXM HSX HR3 HP3 HB34 HB3
  go_upto_region 7 with fail
  rw[<-hW6]
  clear hW6 z1 y1 z2 y2 z3 y3 z5 y5 z6 y6 z7 y7 z8 y8 z9 y9 z10 y10
  go_wp2_with fail
  refine HNX.out.mono ?_
  rintro e W7 ⟨rfl,hb7⟩
  have HB7:=ZZ hb7
  obtain⟨⟨-,c11,-,-⟩,fz⟩:=(HSD.out.below hb7).cells
  have f11:=fz 11
  have HFI:Hid (SD K (W7.setCell ⟨W1.heap.size,11,none⟩ (.int .i64 R.1.next)) pd W1.heap.size SS d N T):=ZZ (by
   have h1:=((HSD.out.below hb7).synced (fun k hk=>by have:=HFK.out.2 k hk;have:=HB06.out.size;have:=hb7.size;omega)).1
   have e:SS=Zdy ⟨R.1,Zbe d kind,R.2,0,0,false⟩:=by rw[HSS.out];rfl
   rw[e]
   exact h1)
  have HBF:Hid (Below W0.heap.size W0 (W7.setCell ⟨W1.heap.size,11,none⟩ (.int .i64 R.1.next))):=ZZ ((HB06.out.trans (hb7.mono HB06.out.size)).setCell (p:=⟨W1.heap.size,11,none⟩) HS1.out _)
  generalize R.1.next=nx at *
  dsimp only at c11
  clear hb7 fz HNX
  go_wp2
  go_ret2
  exact .inr ⟨HEE.out,_,rfl,HFI.out,HBF.out⟩
end Go.Proofs.YtnahjngbneicaaaGreatDoor
