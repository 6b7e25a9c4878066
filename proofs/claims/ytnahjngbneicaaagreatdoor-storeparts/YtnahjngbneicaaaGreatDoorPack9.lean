import Derived.Test.YtnahjngbneicaaaGreatDoorPack7
import Derived.Test.YtnahjngbneicaaaGreatDoorPack8
import Derived.Deep.RegionHeld2
import Derived.Test.YtnahjngbneicaaaGreatDoorPack1
import Derived.Deep.QuietTactic
import Derived.BigQuiet
import Derived.Test.YtnahjngbneicaaaGreatDoorPack6
import Derived.Test.YtnahjngbneicaaaGreatDoorPack4
import Derived.Test.YtnahjngbneicaaaGreatDoorPack3
import Derived.Deep.RegionHeld
import Derived.Maps.OwnOps
import Derived.Maps.Views
namespace Go.Proofs.YtnahjngbneicaaaGreatDoor
set_option maxHeartbeats 8000000
set_option maxRecDepth 100000
open Go.RowKit
theorem ZfE (v:Int) (B:Bool) (hB:B=decide (1<=v∧v<=3)) (w:World):
 Calls Tryz.prog 188 #[.int .i64 v] w fun e w'=>e=.returned (.bool B)∧w'=w:=by
 subst hB
 by_cases h:1<=v∧v<=3
 ·rw[decide_eq_true h]
  obtain⟨h1,h3⟩:=h
  go_enter Tryz.func188,Tryz.ntmps188
  go_wp2
  go_ret
  exact⟨rfl,rfl⟩
 ·rw[decide_eq_false h]
  by_cases h1:1<=v
  ·have h3:¬ v<=3:=fun h3=>h ⟨h1,h3⟩
   clear h
   go_enter Tryz.func188,Tryz.ntmps188
   go_wp2
   go_ret
   exact⟨rfl,rfl⟩
  ·clear h
   go_enter Tryz.func188,Tryz.ntmps188
   go_wp2
   go_ret
   exact⟨rfl,rfl⟩
theorem Zoa (v k f:Int) (w:World):
 Calls Tryz.prog 137 #[.agg #[.int .i64 v,.int .i64 k,.int .i64 f]] w fun e w'=>e=.returned (.int .i64 (ZbP v k f))∧Below w.heap.size w w':=by
 have HB0:Hid (∀ X,Below w.heap.size w (w.alloc X)):=fun X=>(Below.refl _ _).alloc zL X
 by_cases hv:1<=v∧v<=3
 case neg=>
  have HV:=ZZ (ZfE v false (by rw[decide_eq_false hv]))
  have HE:Hid (ZbP v k f=6):=ZZ (if_neg hv)
  rw[HE.out]
  clear hv
  go_enter Tryz.func137,Tryz.ntmps137
  go_wp2_with fail
  refine(HV.out _).mono ?_
  rintro e W1 ⟨rfl,rfl⟩
  go_wp2
  go_ret
  exact⟨rfl,HB0.out _⟩
 have HV:=ZZ (ZfE v true (by rw[decide_eq_true hv]))
 by_cases h:ZhY k f
 case neg=>
  have HE:Hid (ZbP v k f=1):=ZZ (by unfold ZbP;rw[if_pos hv,if_neg h])
  rw[HE.out]
  clear hv
  by_cases h1:k<0
  ·clear h
   go_enter Tryz.func137,Tryz.ntmps137
   go_wp2_with fail
   refine(HV.out _).mono ?_
   rintro e W1 ⟨rfl,rfl⟩
   go_wp2
   go_ret
   exact⟨rfl,HB0.out _⟩
  by_cases h2:6<=k
  ·clear h
   go_enter Tryz.func137,Tryz.ntmps137
   go_wp2_with fail
   refine(HV.out _).mono ?_
   rintro e W1 ⟨rfl,rfl⟩
   go_wp2
   go_ret
   exact⟨rfl,HB0.out _⟩
  by_cases h3:f<0
  ·clear h
   go_enter Tryz.func137,Tryz.ntmps137
   go_wp2_with fail
   refine(HV.out _).mono ?_
   rintro e W1 ⟨rfl,rfl⟩
   go_wp2
   go_ret
   exact⟨rfl,HB0.out _⟩
  have h4:4611686018427387904<=f:=by
   by_cases h4:f<4611686018427387904
   ·exact absurd ⟨by omega,by omega,by omega,h4⟩ h
   ·omega
  clear h
  go_enter Tryz.func137,Tryz.ntmps137
  go_wp2_with fail
  refine(HV.out _).mono ?_
  rintro e W1 ⟨rfl,rfl⟩
  go_wp2
  go_ret
  exact⟨rfl,HB0.out _⟩
 have HE:Hid (ZbP v k f=0):=ZZ (by unfold ZbP;rw[if_pos hv,if_pos h])
 rw[HE.out]
 obtain⟨k0,k1,f0,f1⟩:=h
 have hk0:¬ k<0:=by omega
 have hk1:¬ 6<=k:=by omega
 have hf0:¬ f<0:=by omega
 have hf1:¬ 4611686018427387904<=f:=by omega
 clear hv
 go_enter Tryz.func137,Tryz.ntmps137
 go_wp2_with fail
 refine(HV.out _).mono ?_
 rintro e W1 ⟨rfl,rfl⟩
 go_wp2
 go_ret
 exact⟨rfl,HB0.out _⟩
theorem Zms {L:List (List UInt8)} {k:Nat} (h:k<L.length):Zag (L.take (k+1))=Zag (L.take k)++Zad (L.getD k []):=by
 rw[Zsi h,ZmZ]
 simp[Zag]
theorem ZpS {d:List UInt8} (h:d.length<=1048576):Zih (d.length:Int)=(Zad d).length:=by
 unfold Zih
 rw[if_pos ⟨by omega,by omega⟩,Zap,Int.toNat_natCast]
 omega
theorem ZuO (v:Value) (L:List (List UInt8)) (w:World) (hr:RdL w v L) (hL:∀ x ∈ L,x.length<=1048576) (hlim:(Zag L).length<=10000000):
 Calls Tryz.prog 206 #[v] w fun e w'=>e=.returned (.int .i64 ((Zag L).length:Nat))∧Below w.heap.size w w':=by
 have HR:=ZZ hr
 obtain⟨ao,cap,rfl,hlc,hcm,-⟩:=hr
 have hml:(L.length:Int)<=9223372036854775807:=by unfold maxLen at hcm;omega
 have HAT:=ZZ (fun k hk=>HR.out.at k hk)
 obtain⟨Z,hZ⟩:∃ Z:Nat->Nat,Z=fun k=>(Zag (L.take k)).length:=⟨_,rfl⟩
 have HZ0:Hid (Z 0=0):=ZZ (by rw[hZ];simp[Zag])
 have HZS:Hid (∀ k,k<L.length->Z (k+1)=Z k+Zih ((L.getD k []).length:Int)):=ZZ (fun k hk=>by
  rw[hZ]
  simp only
  rw[Zms hk,List.length_append,ZpS (hL _ (ZqT hk))])
 have HZL:Hid (∀ k,Z k<=10000000):=ZZ (fun k=>by
  rw[hZ]
  have:=ZgN L k
  simp only
  omega)
 have HZA:Hid ((Zag L).length=Z L.length):=ZZ (by rw[hZ];simp only;rw[List.take_length])
 have HSZ:Hid (∀ k,k<L.length->∀ W,Calls Tryz.prog 134 #[.int .i64 ((L.getD k []).length:Int)] W fun e w'=>e=.returned (.int .i64 (Zih ((L.getD k []).length:Int):Nat))∧Below W.heap.size W w'):=ZZ (fun k hk W=>by
  have:=hL _ (ZqT hk)
  exact ZqR _ W (by omega) (by omega))
 rw[HZA.out]
 clear hZ hlc hcm hL hlim
 go_enter Tryz.func206,Tryz.ntmps206
 go_wp2
 go_loopw[3,8] (fun vs vi wr=>∃ k:Nat,vi=.int .i64 (k:Int)∧vs=.int .i64 (Z k:Int)∧k<=L.length∧Hid (Below w.heap.size w wr)) (fun _ vi _=>L.length-(intOf vi).toNat)
 case atStart=>exact⟨0,rfl,by rw[HZ0.out];rfl,Nat.zero_le _,Below.refl _ _⟩
 case round=>
  obtain⟨k,rfl,rfl,hk,hB⟩:=hrel
  by_cases hlt:k<L.length
  case neg=>
   have e:k=L.length:=by omega
   subst e
   go_wp2
   go_ret
   exact⟨rfl,hB.out⟩
  obtain⟨b,off,x,rfl,hx,hxr⟩:=HAT.out k hlt
  have hck:=hx wr hB.out
  have HSk:=ZZ (HZS.out k hlt)
  have HCk:=ZZ (HSZ.out k hlt)
  have hz1:=HZL.out (k+1)
  rw[HSk.out] at hz1
  obtain⟨a9,c9,rfl,-⟩:=hxr wr hB.out
  obtain⟨ZK,hZK⟩:∃ ZK,ZK=Z (k+1):=⟨_,rfl⟩
  rw[<-hZK] at HSk
  have HZK:=ZZ hZK
  generalize Z k=z at *
  generalize Zih ((L.getD k []).length:Int)=sz at *
  generalize (L.getD k []).length=n at *
  clear hx hxr hZK
  go_wp2_with fail
  refine(HCk.out _).mono ?_
  rintro e W2 ⟨rfl,hb2⟩
  have HB2:=ZZ (hB.out.trans (hb2.mono hB.out.size))
  clear hb2
  go_wp2
  go_roundw
  case rel=>exact⟨k+1,by go_num,by rw[<-HZK.out,HSk.out];go_num,by omega,HB2⟩
  case measure=>simp[intOf];omega
theorem ZpT (x0 x1 x2:Int) (W:World):(Instr.index 188 (.agg #[.int .i64 x0,.int .i64 x1,.int .i64 x2]) (.int .i64 0)).run Tryz.prog W=.ok (.int .i64 x0) W:=by
 simp[Instr.index,run_underlying Tryz.underlying188,asIntOf,go_sem]
theorem ZpU (x0 x1 x2:Int) (W:World):(Instr.index 188 (.agg #[.int .i64 x0,.int .i64 x1,.int .i64 x2]) (.int .i64 1)).run Tryz.prog W=.ok (.int .i64 x1) W:=by
 simp[Instr.index,run_underlying Tryz.underlying188,asIntOf,go_sem]
theorem ZpV (x0 x1 x2:Int) (W:World):(Instr.index 188 (.agg #[.int .i64 x0,.int .i64 x1,.int .i64 x2]) (.int .i64 2)).run Tryz.prog W=.ok (.int .i64 x2) W:=by
 simp[Instr.index,run_underlying Tryz.underlying188,asIntOf,go_sem]
theorem Zob (v k f:Int) (hv:1<=v∧v<=3) (h:ZhY k f) (w:World):
 Calls Tryz.prog 138 #[.agg #[.int .i64 v,.int .i64 k,.int .i64 f]] w fun e w'=>∃ v',e=.returned v'∧Own w' w.heap.size v' (Zbk v.toNat k.toNat f.toNat)∧Below w.heap.size w w':=by
 obtain⟨k0,k1,f0,f1⟩:=h
 have HPU:Hid (∀ v1 l n W,Rd W v1 l->l.length<=1000->0<=n->n<4611686018427387904->Calls Tryz.prog 132 #[v1,.int .i64 n] W fun e w'=>∃ v',e=.returned v'∧Own w' W.heap.size v' (l++Lib.uvarint n.toNat)∧Below W.heap.size W w'):=fun v1 l n W h hl n0 n1=>by
  have h:=ZfU v1 l n W h (by omega)
  rw[ZdA n0 n1] at h
  exact h
 have q1:(Lib.uvarint v.toNat).length<=10:=ZfX (by omega)
 have q2:(Lib.uvarint k.toNat).length<=10:=ZfX (by omega)
 have HE:Hid (Zbk v.toNat k.toNat f.toNat=(([108]++Lib.uvarint v.toNat)++Lib.uvarint k.toNat)++Lib.uvarint f.toNat):=ZZ (by unfold Zbk;simp)
 have HP1:=ZZ (fun v1 W h=>HPU.out v1 [108] v W h (by simp) (by omega) (by omega))
 have HP2:=ZZ (fun v1 W h=>HPU.out v1 ([108]++Lib.uvarint v.toNat) k W h (by simp only [List.length_append,List.length_singleton];omega) k0 (by omega))
 have HP3:=ZZ (fun v1 W h=>HPU.out v1 (([108]++Lib.uvarint v.toNat)++Lib.uvarint k.toNat) f W h (by simp only [List.length_append,List.length_singleton];omega) f0 f1)
 rw[<-HE.out] at HP3
 clear HE HPU
 obtain⟨PK,hPK⟩:∃ PK:Nat->List UInt8,PK=fun q=>if q=0 then[108] else if q=1 then[108]++Lib.uvarint v.toNat else if q=2 then[108]++Lib.uvarint v.toNat++Lib.uvarint k.toNat else Zbk v.toNat k.toNat f.toNat:=⟨_,rfl⟩
 have e0:[108]=PK 0:=by rw[hPK];rfl
 have e1:[108]++Lib.uvarint v.toNat=PK 1:=by rw[hPK];rfl
 have e2:[108]++Lib.uvarint v.toNat++Lib.uvarint k.toNat=PK 2:=by rw[hPK];rfl
 have e3:Zbk v.toNat k.toNat f.toNat=PK 3:=by rw[hPK];rfl
 have HR0:Hid (∀ W:World,Rd (W.alloc (.cells #[.int .u8 108] 5)) (.slice (some ⟨W.heap.size,0,none⟩) 1 1) (PK 0)):=ZZ (fun W=>by rw[<-e0];exact Rd.byte W 108)
 rw[e2,e3] at HP3
 rw[e2,e1] at HP2
 rw[e1,e0] at HP1
 rw[e3]
 clear e0 e1 e2 e3 hPK q1 q2
 have HB0:Hid (∀ X Y,Below w.heap.size w ((w.alloc X).alloc Y)):=fun X Y=>Below.allocs (Below.allocs (Below.refl _ _) X) Y
 go_enter Tryz.func138,Tryz.ntmps138
 go_wp2
 go_loopw[3,8] (fun vo vi wr=>∃ q:Nat,vi=.int .i64 (q:Int)∧q<=3∧Hid (Rd wr vo (PK q))∧Hid (1<=q->Own wr w.heap.size vo (PK q))∧Hid (Below w.heap.size w wr)) (fun _ vi _=>3-(intOf vi).toNat)
 case atStart=>
  refine⟨0,rfl,Nat.zero_le _,?_,fun h=>absurd h (by decide),HB0.out _ _⟩
  have h:=HR0.out (w.alloc (.cells #[.int .i64 v,.int .i64 k,.int .i64 f] 188))
  have e:(w.alloc (.cells #[.int .i64 v,.int .i64 k,.int .i64 f] 188)).heap.size=w.heap.size+1:=by simp
  rw[e] at h
  exact h
 case round=>
  obtain⟨q,rfl,hq,hR,hO,hB⟩:=hrel
  by_cases hlt:q<3
  case neg=>
   have e:q=3:=by omega
   subst e
   have HO3:=ZZ (hO.out (by decide))
   go_wp2
   go_ret
   exact⟨_,rfl,HO3.out,hB.out⟩
  have h3:q=0∨q=1∨q=2:=by omega
  rcases h3 with rfl | rfl | rfl
  ·have hix:=ZpT v k f
   go_wp2_with fail
   refine(HP1.out _ _ hR.out).mono ?_
   rintro e W2 ⟨v2,rfl,ho2,hb2⟩
   have HR2:=ZZ ho2.rd
   have HO2:=ZZ (ho2.mono hB.out.size)
   have HB2:=ZZ (hB.out.trans (hb2.mono hB.out.size))
   clear ho2 hb2
   go_wp2
   go_roundw
   case rel=>exact⟨1,rfl,by omega,HR2,ZZ (fun _=>HO2.out),HB2⟩
   case measure=>simp[intOf]
  ·have hix:=ZpU v k f
   go_wp2_with fail
   refine(HP2.out _ _ hR.out).mono ?_
   rintro e W2 ⟨v2,rfl,ho2,hb2⟩
   have HR2:=ZZ ho2.rd
   have HO2:=ZZ (ho2.mono hB.out.size)
   have HB2:=ZZ (hB.out.trans (hb2.mono hB.out.size))
   clear ho2 hb2
   go_wp2
   go_roundw
   case rel=>exact⟨2,rfl,by omega,HR2,ZZ (fun _=>HO2.out),HB2⟩
   case measure=>simp[intOf]
  ·have hix:=ZpV v k f
   go_wp2_with fail
   refine(HP3.out _ _ hR.out).mono ?_
   rintro e W2 ⟨v2,rfl,ho2,hb2⟩
   have HR2:=ZZ ho2.rd
   have HO2:=ZZ (ho2.mono hB.out.size)
   have HB2:=ZZ (hB.out.trans (hb2.mono hB.out.size))
   clear ho2 hb2
   go_wp2
   go_roundw
   case rel=>exact⟨3,rfl,by omega,HR2,ZZ (fun _=>HO2.out),HB2⟩
   case measure=>simp[intOf]
theorem Zoc (v k f:Int) (w:World):
 Calls Tryz.prog 93 #[.int .i64 v,.int .i64 k,.int .i64 f] w fun e w'=>ZqS w v k f e w':=by
 unfold ZqS
 have HB0:Hid (∀ X,Below w.heap.size w (w.alloc X)):=fun X=>(Below.refl _ _).alloc zL X
 have X1:Hid (∀ cs,(w.alloc (.cells cs 188)).heap[w.heap.size]?=some (.cells cs 188 (0,0))):=fun cs=>heap_alloc_new w _
 have HFA:=ZZ (fun W=>Zoa v k f W)
 by_cases hok:(1<=v∧v<=3)∧ZhY k f
 case neg=>
  have he:ZbP v k f≠0∧Zik v k f=[]:=by
   unfold ZbP Zik
   by_cases hv:1<=v∧v<=3
   ·rw[if_pos hv,if_pos hv,if_neg (fun h=>hok ⟨hv,h⟩),if_neg (fun h=>hok ⟨hv,h⟩)]
    exact⟨by decide,rfl⟩
   ·rw[if_neg hv,if_neg hv]
    exact⟨by decide,rfl⟩
  obtain⟨he,hl⟩:=he
  rw[hl]
  generalize ZbP v k f=er at *
  have he':(er != 0)=true:=by rw[bne_iff_ne];exact he
  clear hok he hl
  go_enter Tryz.func93,Tryz.ntmps93
  go_wp2_with fail
  refine(HFA.out _).mono ?_
  rintro e W1 ⟨rfl,hb1⟩
  have HB1:=ZZ ((HB0.out _).trans (hb1.mono (HB0.out _).size))
  clear hb1
  go_wp2
  go_ret2
  exact⟨_,rfl,Own.nil _ _,HB1.out⟩
 obtain⟨hv,hh⟩:=hok
 have HDA:=ZZ (fun W=>Zob v k f hv hh W)
 have he:ZbP v k f=0:=by unfold ZbP;rw[if_pos hv,if_pos hh]
 have hl:Zik v k f=Zad (Zbk v.toNat k.toNat f.toNat):=by unfold Zik;rw[if_pos hv,if_pos hh]
 have hlen:(Zbk v.toNat k.toNat f.toNat).length<=40:=Zff (by omega) (by have:=hh.2.1;omega) (by have:=hh.2.2.2;omega)
 have HEN:=ZZ (fun v1 W (h:Rd W v1 (Zbk v.toNat k.toNat f.toNat))=>ZhA v1 _ W h)
 rw[Zmr (by omega)] at HEN
 rw[he] at HFA ⊢
 rw[hl]
 generalize Zbk v.toNat k.toNat f.toNat=H at *
 generalize Zad H=F at *
 clear hv hh he hl
 go_enter Tryz.func93,Tryz.ntmps93
 go_wp2_with fail
 refine(HFA.out _).mono ?_
 rintro e W1 ⟨rfl,hb1⟩
 have HX1:=ZZ ((hb1.block _ (by simp)).trans (X1.out _))
 have HB1:=ZZ ((HB0.out _).trans (hb1.mono (HB0.out _).size))
 clear hb1 HFA
 have c0:W1.cell? ⟨w.heap.size,0,none⟩=some (.int .i64 v):=cell_of_row _ _ 0 _ _ _ HX1.out
 have c1:W1.cell? ⟨w.heap.size,1,none⟩=some (.int .i64 k):=cell_of_row _ _ 1 _ _ _ HX1.out
 have c2:W1.cell? ⟨w.heap.size,2,none⟩=some (.int .i64 f):=cell_of_row _ _ 2 _ _ _ HX1.out
 go_wp2_with fail
 refine(HDA.out _).mono ?_
 rintro e W2 ⟨v2,rfl,ho2,hb2⟩
 have HR2:=ZZ ho2.rd
 have HB2:=ZZ (HB1.out.trans (hb2.mono HB1.out.size))
 clear ho2 hb2 c0 c1 c2 HX1
 go_wp2_with fail
 refine(HEN.out _ _ HR2.out).mono ?_
 rintro e W3 ⟨v3,rfl,ho3,hb3⟩
 have HO3:=ZZ (ho3.mono HB2.out.size)
 have HB3:=ZZ (HB2.out.trans (hb3.mono HB2.out.size))
 clear ho3 hb3
 go_wp2
 go_ret2
 exact⟨_,rfl,HO3.out,HB3.out⟩
def Bhd (w:World) (b:Nat) (x y z:Int):Prop:=w.heap[b]?=some (.cells #[.int .i64 x,.int .i64 y,.int .i64 z] 188 (0,0))
theorem Bhd.lt {w:World} {b:Nat} {x y z:Int} (h:Bhd w b x y z):b<w.heap.size:=(Array.getElem?_eq_some_iff.1 h).1
theorem Bhd.below {w w':World} {b B:Nat} {x y z:Int} (h:Bhd w b x y z) (hb:Below B w w') (hB:b<B):Bhd w' b x y z:=(hb.block b hB).trans h
theorem Bhd.cell {w:World} {b:Nat} {x y z:Int} (h:Bhd w b x y z):(w.cell? ⟨b,0,none⟩=some (.int .i64 x)∧w.cell? ⟨b,1,none⟩=some (.int .i64 y)∧w.cell? ⟨b,2,none⟩=some (.int .i64 z))∧∀ j,w.frozen? ⟨b,j,none⟩=false:=
 ⟨⟨cell_of_row w b 0 _ _ _ h,cell_of_row w b 1 _ _ _ h,cell_of_row w b 2 _ _ _ h⟩,fun j=>frozen_of_row w b j _ _ h⟩
theorem Bhd.set0 {w:World} {b:Nat} {x y z:Int} (h:Bhd w b x y z) (n:Int):Bhd (w.setCell ⟨b,0,none⟩ (.int .i64 n)) b n y z:=by
 have h2:=heap_setCell_same w b 0 _ _ (.int .i64 n) h
 unfold Bhd
 simpa using h2
theorem Bhd.set1 {w:World} {b:Nat} {x y z:Int} (h:Bhd w b x y z) (n:Int):Bhd (w.setCell ⟨b,1,none⟩ (.int .i64 n)) b x n z:=by
 have h2:=heap_setCell_same w b 1 _ _ (.int .i64 n) h
 unfold Bhd
 simpa using h2
theorem Bhd.set2 {w:World} {b:Nat} {x y z:Int} (h:Bhd w b x y z) (n:Int):Bhd (w.setCell ⟨b,2,none⟩ (.int .i64 n)) b x y n:=by
 have h2:=heap_setCell_same w b 2 _ _ (.int .i64 n) h
 unfold Bhd
 simpa using h2
theorem Bhd.other {w:World} {b c:Nat} {x y z:Int} (h:Bhd w b x y z) (hc:b≠c) (j:Nat) (u:Value):Bhd (w.setCell ⟨c,j,none⟩ u) b x y z:=(Below.heap_setCell _ _ _ _ hc).trans h
def ZyJ:Except Int (Nat × Nat × Nat)->Int
 | .error e=>e
 | .ok _=>0
def Zdl (w:World) (d:List UInt8) (e:Ending) (w':World):Prop:=
 ∃ x y z:Int,e=.returned (.tuple #[.agg #[.int .i64 x,.int .i64 y,.int .i64 z],.int .i64 (ZyJ (Zcb d))])∧(∀ v k f,Zcb d=.ok (v,k,f)->x=(v:Int)∧y=(k:Int)∧z=(f:Int))∧Below w.heap.size w w'
theorem Zdl.form {w w':World} {d:List UInt8} (h:Zcb d=.error 3) (hb:Below w.heap.size w w'):Zdl w d (.returned (.tuple #[.agg #[.int .i64 0,.int .i64 0,.int .i64 0],.int .i64 3])) w':=
 ⟨0,0,0,by rw[h];rfl,(fun v k f hh=>by rw[h] at hh;cases hh),hb⟩
theorem Zmt (v:Value) (d:List UInt8) (w:World) (hr:Rd w v d):
 Calls Tryz.prog 203 #[v] w fun e w'=>Zdl w d e w':=by
 have HR:=ZZ hr
 obtain⟨ao,cap,rfl,hlc,hcm,-,hao⟩:=hr
 have hml:(d.length:Int)<=9223372036854775807:=by unfold maxLen at hcm;omega
 have HB0:Hid (∀ X,Below w.heap.size w (w.alloc X)):=fun X=>(Below.refl _ _).alloc zL X
 by_cases h0:d.length=0
 ·have e:d=[]:=List.eq_nil_of_length_eq_zero h0
  have HE:Hid (Zcb d=.error 3):=ZZ (Zlo (.inl e))
  have h0':((d.length:Int) == 0)=true:=by rw[beq_iff_eq];omega
  clear e h0 hao
  go_enter Tryz.func203,Tryz.ntmps203
  go_wp2
  refine bodyPost_ret (v:=.tuple #[.agg #[.int .i64 0,.int .i64 0,.int .i64 0],.int .i64 3]) (by simp[results,Tryz.results203,go_sem]) rfl ?_
  exact Zdl.form HE.out (HB0.out _)
 have h0':((d.length:Int) == 0)=false:=beq_eq_false_iff_ne.2 (by omega)
 have hpos:(0:Int)<(d.length:Int):=by omega
 have hne:d≠[]:=fun e=>by rw[e] at h0;simp at h0
 rcases hao with he | ⟨b,off,rfl,hc⟩
 ·exact absurd he hne
 have hc0:=hc 0 (by omega)
 have hbl:b<w.heap.size:=World.block_lt_of_cell? w ⟨b,off+0,none⟩ hc0
 have hck:∀ X,(w.alloc X).cell? ⟨b,off,none⟩=some (.int .u8 ((d.getD 0 0).toNat:Nat)):=fun X=>((HB0.out X).cell (p:=⟨b,off,none⟩) hbl).trans hc0
 clear hc hc0 hlc hcm
 by_cases hm:d.getD 0 0=108
 case neg=>
  have HE:Hid (Zcb d=.error 3):=ZZ (Zlo (.inr hm))
  have hm':((((d.getD 0 0).toNat:Nat):Int) != 108)=true:=by
   rw[bne_iff_ne]
   intro h
   apply hm
   apply UInt8.toNat_inj.1
   have:(108:UInt8).toNat=108:=rfl
   omega
  clear hm hne h0
  generalize (((d.getD 0 0).toNat:Nat):Int)=c0 at *
  go_enter Tryz.func203,Tryz.ntmps203
  go_wp2
  refine bodyPost_ret (v:=.tuple #[.agg #[.int .i64 0,.int .i64 0,.int .i64 0],.int .i64 3]) (by simp[results,Tryz.results203,go_sem]) rfl ?_
  exact Zdl.form HE.out (HB0.out _)
 have hm':((((d.getD 0 0).toNat:Nat):Int) != 108)=false:=by
  rw[hm]
  rfl
 have hgd:¬ (d=[]∨d.getD 0 0≠108):=by rintro(h | h);exact hne h;exact h hm
 generalize (((d.getD 0 0).toNat:Nat):Int)=c0 at *
 obtain⟨a1,c1,hr1,hcut1⟩:=Zxf w _ d cap HR.out 1 (by omega)
 obtain⟨⟨n0,k0⟩,hd1⟩:∃ x,Zab (d.drop 1)=x:=⟨_,rfl⟩
 obtain⟨⟨n1,k1⟩,hd2⟩:∃ x,Zab (d.drop (1+k0))=x:=⟨_,rfl⟩
 obtain⟨⟨n2,k2⟩,hd3⟩:∃ x,Zab (d.drop (1+k0+k1))=x:=⟨_,rfl⟩
 have hl1:=ZbQ (d.drop 1)
 have hl2:=ZbQ (d.drop (1+k0))
 have hl3:=ZbQ (d.drop (1+k0+k1))
 have q2:=Zwq (d.drop (1+k0+k1))
 rw[hd1,List.length_drop] at hl1
 rw[hd2,List.length_drop] at hl2
 rw[hd3,List.length_drop] at hl3
 rw[hd3] at q2
 simp only at hl1 hl2 hl3 q2
 have HE:=ZZ (Zsk hgd hd1 hd2 hd3)
 have k1':=hcut1 1 rfl
 -- the three rounds
 have HR1:=ZZ hr1
 have HF:=ZZ (fun W=>Zoa (n0:Int) (n1:Int) (n2:Int) W)
 have X1:Hid (∀ x y z Y,Bhd ((w.alloc (.cells #[.int .i64 x,.int .i64 y,.int .i64 z] 188)).alloc Y) w.heap.size x y z):=fun x y z Y=>(Below.heap_alloc _ _ _ (by simp)).trans (heap_alloc_new w _)
 have X2:Hid (∀ X x y z,Bhd ((w.alloc X).alloc (.cells #[.int .i64 x,.int .i64 y,.int .i64 z] 188)) (w.heap.size+1) x y z):=fun X x y z=>Zpq w X _
 have HB2:Hid (∀ X Y,Below w.heap.size w ((w.alloc X).alloc Y)):=fun X Y=>Below.allocs (Below.allocs (Below.refl _ _) X) Y
 clear hr1 hcut1 hm hne h0
 obtain⟨PP,hPP⟩:∃ PP:Nat->Nat,PP=fun q=>if q=0 then 1 else if q=1 then 1+k0 else if q=2 then 1+k0+k1 else 1+k0+k1+k2:=⟨_,rfl⟩
 have p0:PP 0=1:=by rw[hPP];rfl
 have p1:PP 1=1+k0:=by rw[hPP];rfl
 have p2:PP 2=1+k0+k1:=by rw[hPP];rfl
 have p3:PP 3=1+k0+k1+k2:=by rw[hPP];rfl
 have HP:Hid (PP 0=1∧PP 1=1+k0∧PP 2=1+k0+k1∧PP 3=1+k0+k1+k2):=ZZ ⟨p0,p1,p2,p3⟩
 obtain⟨LL,hLL⟩:∃ LL:Nat->Nat,LL=fun q=>(d.drop (PP q)).length:=⟨_,rfl⟩
 have HLL:Hid (∀ q,LL q=(d.drop (PP q)).length):=ZZ (fun q=>by rw[hLL])
 have HR0:Hid (Rd w (.slice a1 (LL 0) c1) (d.drop (PP 0))):=ZZ (by rw[HLL.out,p0];exact HR1.out)
 have k1'':∀ W,(Instr.sliceAt 53 (.slice (some ⟨b,off,none⟩) d.length cap) (some (.int .i64 1)) none none).run Tryz.prog W=.ok (.slice a1 (LL 0) c1) W:=by rw[HLL.out,p0];exact k1'
 have HST:Hid (∀ (a:Option Addr) (c q k:Nat),PP (q+1)=PP q+k->PP q+k<=d.length->Rd w (.slice a (LL q) c) (d.drop (PP q))->∃ a' c',Rd w (.slice a' (LL (q+1)) c') (d.drop (PP (q+1)))∧∀ i:Int,i=(k:Int)->∀ W,(Instr.sliceAt 53 (.slice a (LL q) c) (some (.int .i64 i)) none none).run Tryz.prog W=.ok (.slice a' (LL (q+1)) c') W):=ZZ (fun a c q k hp hk hrp=>by
  rw[HLL.out q] at hrp
  obtain⟨a',c',h1,h2⟩:=Zxf w a (d.drop (PP q)) c hrp k (by rw[List.length_drop];omega)
  rw[List.drop_drop,<-hp,<-HLL.out (q+1)] at h1
  rw[List.drop_drop,<-hp,<-HLL.out q,<-HLL.out (q+1)] at h2
  exact⟨a',c',h1,h2⟩)
 have HG:Hid (∀ W a c q n k,Below w.heap.size w W->Rd w (.slice a (LL q) c) (d.drop (PP q))->Zab (d.drop (PP q))=(n,k)->Calls Tryz.prog 168 #[.slice a (LL q) c] W fun e w'=>e=.returned (.tuple #[.int .i64 (n:Int),.int .i64 (k:Int)])∧w'=W):=ZZ (fun W a c q n k hb h hd=>by
  have hx:=ZeZ _ _ W (h.below hb zL)
  rw[hd] at hx
  exact hx)
 have HD:Hid (Zab (d.drop 1)=(n0,k0)∧Zab (d.drop (1+k0))=(n1,k1)∧Zab (d.drop (1+k0+k1))=(n2,k2)):=ZZ ⟨hd1,hd2,hd3⟩
 have HL:Hid (k0<=d.length-1∧k1<=d.length-(1+k0)∧k2<=d.length-(1+k0+k1)):=ZZ ⟨hl1,hl2,hl3⟩
 clear hPP hLL p0 p1 p2 p3 HR1 k1' hd1 hd2 hd3 hl1 hl2 hl3 hgd
 go_enter Tryz.func203,Tryz.ntmps203
 go_wp2
 go_loopw[5,21] (fun vl vi wr=>∃ (q:Nat) (a:Option Addr) (c:Nat) (x y z:Int),vi=.int .i64 (q:Int)∧vl=.slice a (LL q) c∧q<=3∧Hid (Rd w (.slice a (LL q) c) (d.drop (PP q)))∧Hid (Bhd wr (w.heap.size+1) x y z)∧Hid (Bhd wr w.heap.size 0 0 0)∧Hid ((1<=q->x=(n0:Int)∧k0≠0)∧(2<=q->y=(n1:Int)∧k1≠0)∧(3<=q->z=(n2:Int)∧k2≠0))∧Hid (Below w.heap.size w wr)) (fun _ vi _=>3-(intOf vi).toNat)
 case atStart=>exact⟨0,a1,c1,0,0,0,rfl,rfl,Nat.zero_le _,HR0,ZZ (X2.out _ _ _ _),ZZ (X1.out _ _ _ _),ZZ ⟨fun h=>absurd h (by decide),fun h=>absurd h (by decide),fun h=>absurd h (by decide)⟩,ZZ (HB2.out _ _)⟩
 case round=>
  obtain⟨q,a,c,x,y,z,rfl,rfl,hq,hRq,hH,hZ,hI,hB⟩:=hrel
  clear HR0 k1'' hck
  by_cases hlt:q<3
  case neg=>
   have e:q=3:=by omega
   subst e
   have h1:=hI.out.1 (by decide)
   have h2:=hI.out.2.1 (by decide)
   have h3:=hI.out.2.2 (by decide)
   obtain⟨rfl,h1'⟩:=h1
   obtain⟨rfl,h2'⟩:=h2
   obtain⟨rfl,h3'⟩:=h3
   by_cases hend:1+k0+k1+k2=d.length
   case neg=>
    have HE3:Hid (Zcb d=.error 3):=ZZ (by rw[HE.out,if_pos (.inr (.inr (.inr hend)))])
    have hlen:LL 3≠0:=by
     rw[HLL.out,HP.out.2.2.2,List.length_drop]
     have:=HL.out
     omega
    have hgt:(0:Int)<(LL 3:Int):=by omega
    have hgt':0<LL 3:=by omega
    have hgd':decide (0<LL 3)=true:=decide_eq_true hgt'
    generalize LL 3=ln at *
    obtain⟨⟨r0,r1,r2⟩,rf⟩:=hZ.out.cell
    have f0:=rf 0
    have f1:=rf 1
    have f2:=rf 2
    clear rf hlen h1' h2' h3' hend HE
    go_wp2
    refine bodyPost_ret (v:=.tuple #[.agg #[.int .i64 0,.int .i64 0,.int .i64 0],.int .i64 3]) (by simp[results,Tryz.results203,go_sem,r0,r1,r2]) rfl ?_
    exact Zdl.form HE3.out (Zbo hB.out _ zL _ _ _)
   have hlen:LL 3=0:=by
    rw[HLL.out,HP.out.2.2.2,List.length_drop]
    omega
   have HER:Hid (ZbP (n0:Int) (n1:Int) (n2:Int)=ZyJ (Zcb d)):=ZZ (by
    rw[HE.out,if_neg (by omega)]
    unfold ZbP
    by_cases g1:n0<1∨3<n0
    ·rw[if_neg (by omega),if_pos g1];rfl
    ·rw[if_pos (by omega),if_neg g1]
     by_cases g2:6<=n1
     ·rw[if_pos g2,if_neg (fun h=>by have:=h.2.1;omega)];rfl
     ·rw[if_neg g2,if_pos ⟨by omega,by omega,by omega,by omega⟩];rfl)
   have HOK:Hid (∀ v k f,Zcb d=.ok (v,k,f)->(n0:Int)=(v:Int)∧(n1:Int)=(k:Int)∧(n2:Int)=(f:Int)):=ZZ (fun v k f hh=>by
    rw[HE.out] at hh
    split at hh
    ·cases hh
    split at hh
    ·cases hh
    split at hh
    ·cases hh
    simp only [Except.ok.injEq,Prod.mk.injEq] at hh
    obtain⟨rfl,rfl,rfl⟩:=hh
    exact⟨rfl,rfl,rfl⟩)
   rw[HER.out] at HF
   rw[hlen] at hRq ⊢
   obtain⟨er,her⟩:∃ er,er=ZyJ (Zcb d):=⟨_,rfl⟩
   rw[<-her] at HF
   have HEQ:=ZZ her
   clear her
   obtain⟨⟨r0,r1,r2⟩,rf⟩:=hZ.out.cell
   have f0:=rf 0
   have f1:=rf 1
   have f2:=rf 2
   obtain⟨⟨g0,g1,g2⟩,-⟩:=hH.out.cell
   have HKA:Hid (∀ W,Below wr.heap.size wr W->W.cell? ⟨w.heap.size+1,0,none⟩=some (.int .i64 (n0:Int))∧W.cell? ⟨w.heap.size+1,1,none⟩=some (.int .i64 (n1:Int))∧W.cell? ⟨w.heap.size+1,2,none⟩=some (.int .i64 (n2:Int))):=ZZ (fun W hb=>(hH.out.below hb hH.out.lt).cell.1)
   have HBD:Hid (Below wr.heap.size wr wr.drew):=ZZ ((Below.refl _ _).drew)
   have HK0:=ZZ (HKA.out _ HBD.out)
   generalize (n0:Int)=N0 at *
   generalize (n1:Int)=N1 at *
   generalize (n2:Int)=N2 at *
   clear rf h1' h2' h3' hend HE HER HL HD hI hlen HP
   have hne0:w.heap.size≠w.heap.size+1:=by omega
   have HZS:Hid (Bhd (((wr.setCell ⟨w.heap.size,0,none⟩ (.int .i64 N0)).setCell ⟨w.heap.size,1,none⟩ (.int .i64 N1)).setCell ⟨w.heap.size,2,none⟩ (.int .i64 N2)) w.heap.size N0 N1 N2):=ZZ (((hZ.out.set0 N0).set1 N1).set2 N2)
   have HHS:Hid (Bhd (((wr.setCell ⟨w.heap.size,0,none⟩ (.int .i64 N0)).setCell ⟨w.heap.size,1,none⟩ (.int .i64 N1)).setCell ⟨w.heap.size,2,none⟩ (.int .i64 N2)) (w.heap.size+1) N0 N1 N2):=ZZ (((hH.out.other (by omega) 0 _).other (by omega) 1 _).other (by omega) 2 _)
   have HBS:Hid (Below w.heap.size w (((wr.setCell ⟨w.heap.size,0,none⟩ (.int .i64 N0)).setCell ⟨w.heap.size,1,none⟩ (.int .i64 N1)).setCell ⟨w.heap.size,2,none⟩ (.int .i64 N2)).drew):=ZZ (Zbo hB.out _ zL _ _ _).drew
   go_upto_region 15 with fail
   go_region_held2(fun w'=>w'.cell? ⟨w.heap.size+1,0,none⟩=some (.int .i64 N0)∧w'.cell? ⟨w.heap.size+1,1,none⟩=some (.int .i64 N1)∧w'.cell? ⟨w.heap.size+1,2,none⟩=some (.int .i64 N2)) (first | exact HK0.out | exact HK2.out | exact HK3.out | exact HHS.out.cell.1 | go_keep)
    (first
     | (go_at_call 137;refine(HF.out wr.drew).mono ?_;rintro e W2 ⟨rfl,hb2⟩;have HB2:=ZZ (HBD.out.trans hb2);have HK2:=ZZ (HKA.out W2 HB2.out);have HE2:=ZZ (hB.out.trans (HB2.out.mono hB.out.size));obtain⟨⟨s0,s1,s2⟩,sf⟩:=(hZ.out.below HB2.out hZ.out.lt).cell;have sf0:=sf 0;have sf1:=sf 1;have sf2:=sf 2;obtain⟨⟨t0,t1,t2⟩,-⟩:=(hH.out.below HB2.out hH.out.lt).cell;clear hb2 sf)
     | (go_at_call 137;refine(HF.out (((wr.setCell ⟨w.heap.size,0,none⟩ (.int .i64 N0)).setCell ⟨w.heap.size,1,none⟩ (.int .i64 N1)).setCell ⟨w.heap.size,2,none⟩ (.int .i64 N2)).drew).mono ?_;rintro e W3 ⟨rfl,hb3⟩;have HK3:=ZZ (HHS.out.below hb3 HHS.out.lt).cell.1;have HE3:=ZZ (HBS.out.trans (hb3.mono HBS.out.size));obtain⟨⟨s0,s1,s2⟩,-⟩:=(HZS.out.below hb3 HZS.out.lt).cell;clear hb3))
   all_goals
    go_wp2
    refine bodyPost_ret (v:=.tuple #[.agg #[.int .i64 N0,.int .i64 N1,.int .i64 N2],.int .i64 er]) (by simp[results,Tryz.results203,go_sem,s0,s1,s2]) rfl ⟨N0,N1,N2,by rw[HEQ.out],HOK.out,?_⟩
    first
    | exact HE3.out
    | exact(Zbo HE2.out _ zL _ _ _)
    | exact(Zbo HE2.out _ zL _ _ _).drew
  have h3:q=0∨q=1∨q=2:=by omega
  rcases h3 with rfl | rfl | rfl
  ·have HGQ:=ZZ (HG.out wr a c 0 n0 k0 hB.out hRq.out (by rw[HP.out.1];exact HD.out.1))
   by_cases hk:k0=0
   ·have HE3:Hid (Zcb d=.error 3):=ZZ (by rw[HE.out,if_pos (.inl hk)])
    have hk':((k0:Int) == 0)=true:=by rw[beq_iff_eq];omega
    obtain⟨⟨r0,r1,r2⟩,rf⟩:=hZ.out.cell
    have f0:=rf 0
    have f1:=rf 1
    have f2:=rf 2
    clear rf hk HE HL
    go_wp2_with fail
    refine HGQ.out.mono ?_
    rintro e W2 ⟨rfl,hw2⟩
    rw[hw2]
    go_wp2
    refine bodyPost_ret (v:=.tuple #[.agg #[.int .i64 0,.int .i64 0,.int .i64 0],.int .i64 3]) (by simp[results,Tryz.results203,go_sem,r0,r1,r2]) rfl ?_
    exact Zdl.form HE3.out (Zbo hB.out _ zL _ _ _)
   have hk':((k0:Int) == 0)=false:=beq_eq_false_iff_ne.2 (by omega)
   have HKQ:=ZZ hk
   obtain⟨a',c',hrn,hcut⟩:=HST.out a c 0 k0 (by rw[HP.out.2.1,HP.out.1]) (by rw[HP.out.1];have:=HL.out;omega) hRq.out
   have kc:=hcut (k0:Int) rfl
   have HRN:=ZZ hrn
   obtain⟨⟨g0,g1,g2⟩,gf⟩:=hH.out.cell
   have fq:=gf 0
   have HHN:=ZZ (hH.out.set0 (n0:Int))
   have HZN:=ZZ (hZ.out.other (show w.heap.size≠w.heap.size+1 by omega) 0 (.int .i64 (n0:Int)))
   have HBN:=ZZ (hB.out.setCell (p:=⟨w.heap.size+1,0,none⟩) (show w.heap.size<=w.heap.size+1 by omega) (.int .i64 (n0:Int)))
   clear hk hcut hrn gf
   go_wp2_with fail
   refine HGQ.out.mono ?_
   rintro e W2 ⟨rfl,hw2⟩
   rw[hw2]
   clear hw2 W2
   go_wp2
   go_region
   all_goals
    go_wp2
    go_roundw
    case rel=>exact⟨1,a',c',(n0:Int),y,z,rfl,rfl,by omega,HRN,HHN,HZN,ZZ ⟨fun _=>⟨rfl,HKQ.out⟩,fun h=>absurd h (by decide),fun h=>absurd h (by decide)⟩,ZZ HBN.out.drew⟩
    case measure=>simp[intOf]
  ·have HGQ:=ZZ (HG.out wr a c 1 n1 k1 hB.out hRq.out (by rw[HP.out.2.1];exact HD.out.2.1))
   by_cases hk:k1=0
   ·have HE3:Hid (Zcb d=.error 3):=ZZ (by rw[HE.out,if_pos (.inr (.inl hk))])
    have hk':((k1:Int) == 0)=true:=by rw[beq_iff_eq];omega
    obtain⟨⟨r0,r1,r2⟩,rf⟩:=hZ.out.cell
    have f0:=rf 0
    have f1:=rf 1
    have f2:=rf 2
    clear rf hk HE HL
    go_wp2_with fail
    refine HGQ.out.mono ?_
    rintro e W2 ⟨rfl,hw2⟩
    rw[hw2]
    go_wp2
    refine bodyPost_ret (v:=.tuple #[.agg #[.int .i64 0,.int .i64 0,.int .i64 0],.int .i64 3]) (by simp[results,Tryz.results203,go_sem,r0,r1,r2]) rfl ?_
    exact Zdl.form HE3.out (Zbo hB.out _ zL _ _ _)
   have hk':((k1:Int) == 0)=false:=beq_eq_false_iff_ne.2 (by omega)
   have HKQ:=ZZ hk
   obtain⟨a',c',hrn,hcut⟩:=HST.out a c 1 k1 (by rw[HP.out.2.2.1,HP.out.2.1]) (by rw[HP.out.2.1];have:=HL.out;omega) hRq.out
   have kc:=hcut (k1:Int) rfl
   have HRN:=ZZ hrn
   obtain⟨⟨g0,g1,g2⟩,gf⟩:=hH.out.cell
   have fq:=gf 1
   have HHN:=ZZ (hH.out.set1 (n1:Int))
   have HZN:=ZZ (hZ.out.other (show w.heap.size≠w.heap.size+1 by omega) 1 (.int .i64 (n1:Int)))
   have HBN:=ZZ (hB.out.setCell (p:=⟨w.heap.size+1,1,none⟩) (show w.heap.size<=w.heap.size+1 by omega) (.int .i64 (n1:Int)))
   clear hk hcut hrn gf
   go_wp2_with fail
   refine HGQ.out.mono ?_
   rintro e W2 ⟨rfl,hw2⟩
   rw[hw2]
   clear hw2 W2
   go_wp2
   go_region
   all_goals
    go_wp2
    go_roundw
    case rel=>exact⟨2,a',c',x,(n1:Int),z,rfl,rfl,by omega,HRN,HHN,HZN,ZZ ⟨fun _=>hI.out.1 (by decide),fun _=>⟨rfl,HKQ.out⟩,fun h=>absurd h (by decide)⟩,ZZ HBN.out.drew⟩
    case measure=>simp[intOf]
  ·have HGQ:=ZZ (HG.out wr a c 2 n2 k2 hB.out hRq.out (by rw[HP.out.2.2.1];exact HD.out.2.2))
   by_cases hk:k2=0
   ·have HE3:Hid (Zcb d=.error 3):=ZZ (by rw[HE.out,if_pos (.inr (.inr (.inl hk)))])
    have hk':((k2:Int) == 0)=true:=by rw[beq_iff_eq];omega
    obtain⟨⟨r0,r1,r2⟩,rf⟩:=hZ.out.cell
    have f0:=rf 0
    have f1:=rf 1
    have f2:=rf 2
    clear rf hk HE HL
    go_wp2_with fail
    refine HGQ.out.mono ?_
    rintro e W2 ⟨rfl,hw2⟩
    rw[hw2]
    go_wp2
    refine bodyPost_ret (v:=.tuple #[.agg #[.int .i64 0,.int .i64 0,.int .i64 0],.int .i64 3]) (by simp[results,Tryz.results203,go_sem,r0,r1,r2]) rfl ?_
    exact Zdl.form HE3.out (Zbo hB.out _ zL _ _ _)
   have hk':((k2:Int) == 0)=false:=beq_eq_false_iff_ne.2 (by omega)
   have HKQ:=ZZ hk
   obtain⟨a',c',hrn,hcut⟩:=HST.out a c 2 k2 (by rw[HP.out.2.2.2,HP.out.2.2.1]) (by rw[HP.out.2.2.1];have:=HL.out;omega) hRq.out
   have kc:=hcut (k2:Int) rfl
   have HRN:=ZZ hrn
   obtain⟨⟨g0,g1,g2⟩,gf⟩:=hH.out.cell
   have fq:=gf 2
   have HHN:=ZZ (hH.out.set2 (n2:Int))
   have HZN:=ZZ (hZ.out.other (show w.heap.size≠w.heap.size+1 by omega) 2 (.int .i64 (n2:Int)))
   have HBN:=ZZ (hB.out.setCell (p:=⟨w.heap.size+1,2,none⟩) (show w.heap.size<=w.heap.size+1 by omega) (.int .i64 (n2:Int)))
   clear hk hcut hrn gf
   go_wp2_with fail
   refine HGQ.out.mono ?_
   rintro e W2 ⟨rfl,hw2⟩
   rw[hw2]
   clear hw2 W2
   go_wp2
   go_region
   all_goals
    go_wp2
    go_roundw
    case rel=>exact⟨3,a',c',x,y,(n2:Int),rfl,rfl,by omega,HRN,HHN,HZN,ZZ ⟨fun _=>hI.out.1 (by decide),fun _=>hI.out.2.1 (by decide),fun _=>⟨rfl,HKQ.out⟩⟩,ZZ HBN.out.drew⟩
    case measure=>simp[intOf]
theorem ZpW (v k f:Int) (a:Option Addr) (n c:Nat) (w:World):
 Calls Tryz.prog 205 #[.agg #[.int .i64 v,.int .i64 k,.int .i64 f],.slice a n c] w fun e w'=>e=.returned (.agg #[.int .i64 k,.int .i64 f,.slice a n c])∧Below w.heap.size w w':=by
 have HB2:Hid (∀ X Y,Below w.heap.size w ((w.alloc X).alloc Y)):=fun X Y=>Below.allocs (Below.allocs (Below.refl _ _) X) Y
 go_enter Tryz.func205,Tryz.ntmps205
 go_wp2
 refine bodyPost_ret (v:=.agg #[.int .i64 k,.int .i64 f,.slice a n c]) (by simp[results,Tryz.results205,go_sem]) rfl ⟨rfl,?_⟩
 exact HB2.out _ _
def Zlp (w:World) (v f:Nat) (B:List (List UInt8)) (e:Ending) (w':World):Prop:=
 ∃ vl,e=.returned (.tuple #[vl,.int .i64 ((ZcL v f B [] 16).2.1:Int),.int .i64 (ZcL v f B [] 16).2.2])∧Zbp w' w.heap.size vl (ZcL v f B [] 16).1∧(∀ r ∈ (ZcL v f B [] 16).1,Zfw r)∧Below w.heap.size w w'
theorem Bsg.set3 {w:World} {R:Nat} {a b c:Value} (h:Bsg w R #[a,b,c]) (x0 x1 x2:Value):Bsg (((w.setCell ⟨R,0,none⟩ x0).setCell ⟨R,1,none⟩ x1).setCell ⟨R,2,none⟩ x2) R #[x0,x1,x2]:=by
 have h0:=heap_setCell_same w R 0 _ _ x0 h
 have h1:=heap_setCell_same _ R 1 _ _ x1 h0
 have h2:=heap_setCell_same _ R 2 _ _ x2 h1
 unfold Bsg
 simpa using h2
theorem Zjx.set {w:World} {C:Nat} {v:Value} {L:List (List UInt8)} (h:Zjx w C v L) (R i:Nat) (hR:R<C) (x:Value):Zjx (w.setCell ⟨R,i,none⟩ x) C v L:=by
 obtain⟨xs,h1,h2⟩:=h
 refine⟨xs,ownsRow_setCell_below h1 hR x,fun j hj=>?_⟩
 obtain⟨y,hy,ho⟩:=h2 j hj
 exact⟨y,hy,ownsRow_setCell_below ho hR x⟩
theorem Zlq (v:Value) (l:List UInt8) (w:World) (hr:Rd w v l) (hlim:l.length<=1000000):
 Calls Tryz.prog 118 #[v] w fun e w'=>∃ v',e=.returned (.tuple #[v',.int .i64 ((Zal l).2.1:Nat)])∧Zjx w' w.heap.size v' (Zal l).1∧Below w.heap.size w w':=by
 have HW:=ZZ (ZnZ v l w hr hlim)
 clear hr
 go_enter Tryz.func118,Tryz.ntmps118
 go_wp2_with fail
 refine HW.out.mono ?_
 rintro e w2 ⟨v2,rfl,ho2,hb2⟩
 have HO2:=ZZ ho2
 have HB2:=ZZ hb2
 clear ho2 hb2 HW
 obtain⟨m,hm⟩:∃ m,m=(Zal l).2.1:=⟨_,rfl⟩
 have HM:=ZZ hm
 rw[<-hm]
 clear hm
 generalize (Zal l).2.2=c at *
 go_wp2
 go_ret2
 exact⟨_,by rw[HM.out];rfl,HO2.out,HB2.out⟩
theorem ZjR (v:Nat) (k f:Int) (vp:Value) (w:World) (hr:∃ a c,vp=.slice a 0 c):
 Calls Tryz.prog 204 #[.agg #[.int .i64 (v:Int),.int .i64 k,.int .i64 f],vp] w fun e w'=>e=.returned (.tuple #[.slice none 0 0,.int .i64 0,.int .i64 0])∧Below w.heap.size w w':=by
 obtain⟨a,c,rfl⟩:=hr
 have HB0:Hid (∀ X,Below w.heap.size w (w.alloc X)):=fun X=>(Below.refl _ _).alloc zL X
 generalize (v:Int)=V
 go_enter Tryz.func204,Tryz.ntmps204
 go_wp2
 go_loopw[7,14] (fun vl vi wr=>vl=.slice none 0 0∧vi=.int .i64 0∧Hid (Below w.heap.size w wr)) (fun _ _ _=>0)
 case atStart=>exact⟨rfl,rfl,ZZ (HB0.out _)⟩
 case round=>
  obtain⟨rfl,rfl,HB⟩:=hrel
  go_wp2
  refine bodyPost_ret (v:=.tuple #[.slice none 0 0,.int .i64 0,.int .i64 0]) (by simp[results,Tryz.results204,go_sem]) rfl ?_
  exact⟨rfl,HB.out⟩
theorem ZkF (vb:Value) (b:List UInt8) (w:World) (hr:Rd w vb b) (hlim:b.length<=100000) (hone:(Zal b).1.tail=[]):
 Calls Tryz.prog 166 #[vb] w fun e w'=>Zdt w b e w':=by
 have HB0:Hid (∀ X,Below w.heap.size w (w.alloc X)):=fun X=>(Below.refl _ _).alloc zL X
 have X1:Hid (∀ cs,Bsg (w.alloc (.cells cs 217)) w.heap.size cs):=fun cs=>heap_alloc_new w _
 have HAL:=ZZ (fun X=>Zlq vb b (w.alloc X) (hr.below (HB0.out X) zL) (by omega))
 obtain⟨ab,cb,rfl,-⟩:=hr
 obtain⟨hbd,hmany⟩:=ZgM b
 obtain⟨hfr,-⟩:=ZeC _ b zL
 have hfl:(Zag (Zal b).1).length<=100000:=by
  rw[hfr,List.length_take]
  omega
 have HN0:=ZZ (fun h=>Zsn (b:=b) h)
 have HNN:Hid ((Zal b).1=[]->Zdh b=(Zgu,0,false)):=ZZ (fun h=>by unfold Zdh ZvK;rw[if_pos h])
 generalize (Zal b).2.1=tk at *
 generalize (Zal b).1=L at *
 have HON:=ZZ hone
 clear hone hfr
 by_cases h0:L.length=0
 ·have e:L=[]:=List.eq_nil_of_length_eq_zero h0
  have HN:=ZZ (HNN.out e)
  have h0':((L.length:Int) == 0)=true:=by rw[beq_iff_eq];omega
  clear HN0 HNN hbd hmany hfl h0 e
  go_enter Tryz.func166,Tryz.ntmps166
  go_wp2_with fail
  refine(HAL.out _).mono ?_
  rintro e W1 ⟨v1,rfl,ho1,hb1⟩
  have HX1:=ZZ ((X1.out _).below hb1 zL)
  have HB1:=ZZ ((HB0.out _).trans (hb1.mono (HB0.out _).size))
  obtain⟨a1,c1,rfl,-⟩:=ho1.rd
  clear hb1 HAL
  obtain⟨r0,f0⟩:=HX1.out.cell 0
  obtain⟨r1,f1⟩:=HX1.out.cell 1
  obtain⟨r2,f2⟩:=HX1.out.cell 2
  go_wp2
  refine bodyPost_ret (v:=.tuple #[.agg #[.int .i64 0,.int .i64 0,.slice none 0 0],.int .i64 0,.bool false]) (by simp[results,Tryz.results166,go_sem,r0,r1,r2]) rfl ?_
  exact Zdt.fail HN.out (Zbo HB1.out _ zL _ _ _)
 have hne:L≠[]:=fun e=>h0 (by rw[e];rfl)
 have h0':((L.length:Int) == 0)=false:=beq_eq_false_iff_ne.2 (by omega)
 have HN:=ZZ (HN0.out hne)
 have hhd:L.getD 0 []=L.headD []:=by cases L <;> rfl
 have HRB:Hid (∀ (v k f:Nat),1<=v->v<=3->f<4611686018427387904->∀ (vp:Value) (W:World),Below w.heap.size w W->RdL W vp L.tail->Calls Tryz.prog 204 #[.agg #[.int .i64 (v:Int),.int .i64 (k:Int),.int .i64 (f:Int)],vp] W fun e w'=>Zlp W v f L.tail e w'):=ZZ (fun v k f _ _ _ vp W _ h=>by
  rw[HON.out] at h ⊢
  refine(ZjR v k f vp W (by
   obtain⟨a,c,e,-⟩:=h
   exact⟨a,c,e⟩)).mono ?_
  rintro e w' ⟨rfl,hb⟩
  exact⟨_,rfl,Zbp.nil _ _,(fun r hr=>by cases hr),hb⟩)
 have HCNT:Hid (∀ v f,(ZcL v f L.tail [] 16).2.1+1<=L.length):=ZZ (fun v f=>by
  have:=ZjQ v f L.tail [] 16
  rw[List.length_tail] at this
  omega)
 have HSI:=ZZ (fun c v1 W (h:RdL W v1 (L.take c))=>ZuO v1 (L.take c) W h (fun x hx=>(hbd x (List.mem_of_mem_take hx)).1) (by have:=ZgN L c;omega))
 have HRH:=ZZ (fun v1 W (h:Rd W v1 (L.headD []))=>Zmt v1 (L.headD []) W h)
 have HSG:=ZZ (fun v k f a n c W=>ZpW v k f a n c W)
 have hml:(L.length:Int)<=100000:=by omega
 have hpos:(0:Int)<(L.length:Int):=by omega
 unfold ZpR at HN
 clear HN0 HNN hbd hfl hne hmany
 go_enter Tryz.func166,Tryz.ntmps166
 go_wp2_with fail
 refine(HAL.out _).mono ?_
 rintro e W1 ⟨v1,rfl,ho1,hb1⟩
 have HX1:=ZZ ((X1.out _).below hb1 zL)
 have HB1:=ZZ ((HB0.out _).trans (hb1.mono (HB0.out _).size))
 have HL1:=ZZ ho1.rd
 have HOL:Hid (Zjx W1 (w.heap.size+1) v1 L):=ZZ (ho1.mono (by simp))
 obtain⟨a1,c1,rfl,-⟩:=ho1.rd
 obtain⟨b0,o0,x0,rfl,hx0,hxr0⟩:=HL1.out.at 0 (by omega)
 obtain⟨am,cm,hrm,hcm⟩:=ZuN W1 _ L L.length c1 rfl HL1.out 1 (by omega)
 have HCF:=ZZ (fun q (hq:q<=L.length)=>Zsm W1 _ L L.length c1 rfl HL1.out q hq)
 rw[List.drop_one] at hrm hcm
 rw[hhd] at hxr0
 have km:=hcm 1 rfl
 have HRM:=ZZ hrm
 have hc0:=hx0 W1 (Below.refl _ _)
 have HX0:=ZZ (hxr0 W1 (Below.refl _ _))
 obtain⟨a0,q0,hxe,-⟩:=hxr0 W1 (Below.refl _ _)
 subst hxe
 rw[Nat.add_zero] at hc0
 clear hb1 HAL hrm hcm hx0 hxr0 X1 HB0 hhd HL1
 generalize L.tail=B at *
 generalize L.headD []=H at *
 generalize hHl:H.length=hl at *
 clear hHl
 go_wp2_with fail
 refine(HRH.out _ _ HX0.out).mono ?_
 rintro e W2 ⟨x,y,z,rfl,hxyz,hb2⟩
 have HXYZ:=ZZ hxyz
 have HX2:=ZZ (HX1.out.below hb2 zL)
 have HB2:=ZZ (HB1.out.trans (hb2.mono HB1.out.size))
 have HB12:=ZZ hb2
 clear hxyz hb2 hc0 HX0 HX1 HRH
 obtain⟨NA,hNA⟩:∃ N,N=W2.heap.size:=⟨_,rfl⟩
 obtain⟨WA,hWA⟩:∃ V,V=W2.alloc (.cells #[.int .i64 x,.int .i64 y,.int .i64 z] 188):=⟨_,rfl⟩
 have hbA:Below W2.heap.size W2 WA:=by rw[hWA];exact(Below.refl _ _).alloc zL _
 have HHA:Hid (Bhd WA NA x y z):=ZZ (by rw[hWA,hNA];exact heap_alloc_new W2 _)
 have HXA:=ZZ (HX2.out.below hbA zL)
 have HBA:=ZZ (HB2.out.trans (hbA.mono HB2.out.size))
 have HB1A:=ZZ (HB12.out.trans (hbA.mono HB12.out.size))
 have hNA0:w.heap.size<NA:=by rw[hNA];exact HX2.out.lt
 go_upto_region 5 with fail
 rw[<-hWA,<-hNA]
 clear hWA hNA hbA HX2 HB2 HB12
 cases hrd:Zcb H with
 | error ex=>
  have HN2:Hid (Zdh b=(Zgu,0,false)):=ZZ (by rw[HN.out,hrd])
  have hx:=Zws hrd
  have hx':(ex != 0)=true:=by rw[bne_iff_ne];exact hx
  have e9:ZyJ (Except.error ex:Except Int (Nat × Nat × Nat))=ex:=rfl
  obtain⟨r0,f0⟩:=HXA.out.cell 0
  obtain⟨r1,f1⟩:=HXA.out.cell 1
  obtain⟨r2,f2⟩:=HXA.out.cell 2
  rw[e9]
  clear e9 hrd hx HN HXYZ
  go_wp2
  refine bodyPost_ret (v:=.tuple #[.agg #[.int .i64 0,.int .i64 0,.slice none 0 0],.int .i64 0,.bool false]) (by simp[results,Tryz.results166,go_sem,r0,r1,r2]) rfl ?_
  exact Zdt.fail HN2.out (Zbo HBA.out _ zL _ _ _)
 | ok t=>
  obtain⟨v,k,f⟩:=t
  obtain⟨rfl,rfl,rfl⟩:=HXYZ.out v k f hrd
  obtain⟨-,hv1,hv3,hk6,hf62⟩:=ZeA hrd
  have HRB2:=ZZ (HRB.out v k f hv1 hv3 hf62)
  have hcn:=HCNT.out v f
  rw[hrd] at HN
  have e9:ZyJ (Except.ok (v,k,f):Except Int (Nat × Nat × Nat))=0:=rfl
  rw[e9]
  unfold Zlp at HRB2
  simp only at HN
  generalize ZcL v f B [] 16=T at *
  obtain⟨recs,cnt,er⟩:=T
  simp only at HN HRB2 hcn
  obtain⟨q,hq⟩:∃ q,q=1+cnt:=⟨_,rfl⟩
  obtain⟨hrf,hcf⟩:=HCF.out q (by omega)
  have kf:=hcf (1+(cnt:Int)) (by omega)
  have HSI2:=ZZ (HSI.out q)
  have HPF:Hid (∀ W:World,Zjx W (w.heap.size+1) (.slice (some ⟨b0,o0,none⟩) L.length c1) L->RdL W (.slice (some ⟨b0,o0,none⟩) q c1) (L.take q)):=ZZ (fun W h=>h.rd.front q (by omega))
  have HRF:=ZZ hrf
  have hcw:(1:Int)+(cnt:Int)<=100000:=by omega
  have hcw2:IntKind.i64.wrap (1+(cnt:Int))=1+(cnt:Int):=by rw[IntKind.wrap_i64];omega
  have hq2:(1:Int)+(cnt:Int)<=(L.length:Int):=by omega
  rw[<-hq] at HN
  obtain⟨SZ,hSZ⟩:∃ SZ,SZ=(Zag (L.take q)).length:=⟨_,rfl⟩
  rw[<-hSZ] at HN HSI2
  generalize L.take q=PF at *
  clear e9 hrd HXYZ HRB hv1 hv3 hk6 hf62 HSI HCF HCNT hrf hcf hcn hq hSZ
  generalize (v:Int)=V at *
  have HLT:Hid (w.heap.size<WA.heap.size):=ZZ (Nat.lt_trans hNA0 HHA.out.lt)
  have HKA:Hid (∀ W,Below WA.heap.size WA W->W.cell? ⟨NA,0,none⟩=some (.int .i64 V)∧W.cell? ⟨NA,1,none⟩=some (.int .i64 (k:Int))∧W.cell? ⟨NA,2,none⟩=some (.int .i64 (f:Int))):=ZZ (fun W hb=>(HHA.out.below hb HHA.out.lt).cell.1)
  have HBD:Hid (Below WA.heap.size WA WA.drew):=ZZ ((Below.refl _ _).drew)
  have HK0:=ZZ (HKA.out _ HBD.out)
  have HRMA:=ZZ (HRM.out.below HB1A.out zL)
  go_upto_region 7 with fail
  go_cut[9,10,11] (fun vl vc ve wc=>∃ al nl cl,vl=.slice al nl cl∧vc=.int .i64 (cnt:Int)∧ve=.int .i64 er∧Hid (∀ r ∈ recs,Zfw r)∧Hid (Zbp wc WA.heap.size (.slice al nl cl) recs)∧Hid (Below WA.heap.size WA wc))
  case first=>
   go_region_held2(fun W=>W.cell? ⟨NA,0,none⟩=some (.int .i64 V)∧W.cell? ⟨NA,1,none⟩=some (.int .i64 (k:Int))∧W.cell? ⟨NA,2,none⟩=some (.int .i64 (f:Int))) (first | exact HK0.out | exact HK3.out)
    (first
     | (go_at_call 204;refine(HRB2.out _ WA.drew HBA.out.drew (HRMA.out.below HBD.out zL)).mono ?_;rintro e W3 ⟨v3,rfl,hr3,hok3,hb3⟩;have HR3:Hid (Zbp W3 WA.heap.size v3 recs):=ZZ hr3;have HOK3:=ZZ hok3;have HB3:=ZZ (HBD.out.trans hb3);have HK3:=ZZ (HKA.out W3 HB3.out);obtain⟨a3,c3,rfl⟩:=hr3.shape;clear hb3 hr3 hok3))
   all_goals
    go_wp2_with fail
    go_meet
    exact⟨_,_,_,rfl,rfl,rfl,HOK3,HR3,HB3⟩
  case rest=>
   obtain⟨al,nl,cl,rfl,rfl,rfl,HOK3,HR3,HB3⟩:=hcut
   have HXC:=ZZ (HXA.out.below HB3.out zL)
   have HHC:=ZZ (HHA.out.below HB3.out HHA.out.lt)
   have HBC:=ZZ (HBA.out.trans (HB3.out.mono HBA.out.size))
   have HB1C:=ZZ (HB1A.out.trans (HB3.out.mono HB1A.out.size))
   have HKC:Hid (∀ W,Below wc.heap.size wc W->W.cell? ⟨NA,0,none⟩=some (.int .i64 V)∧W.cell? ⟨NA,1,none⟩=some (.int .i64 (k:Int))∧W.cell? ⟨NA,2,none⟩=some (.int .i64 (f:Int))):=ZZ (fun W hb=>(HHC.out.below hb HHC.out.lt).cell.1)
   have HBD2:Hid (Below wc.heap.size wc wc.drew):=ZZ ((Below.refl _ _).drew)
   have HK1:=ZZ (HKC.out _ HBD2.out)
   have HRFC:=ZZ (HRF.out.below HB1C.out zL)
   have HOLC:=ZZ (HOL.out.below HB1C.out zL)
   have hneN:NA≠w.heap.size:=by omega
   clear HXA HHA HBA HB1A HB3 HKA HBD HK0 HRMA HRB2 HRM HRF
   go_upto_region 8 with fail
   go_region_held(fun W=>W.cell? ⟨NA,0,none⟩=some (.int .i64 V)∧W.cell? ⟨NA,1,none⟩=some (.int .i64 (k:Int))∧W.cell? ⟨NA,2,none⟩=some (.int .i64 (f:Int))) (first | exact HK1.out | exact HK4.out | exact HKS.out | exact HK5.out | exact HK6.out | exact HKT.out)
    (first
     | (go_at_call 205;refine(HSG.out _ _ _ _ _ _ wc.drew).mono ?_;rintro e W4 ⟨rfl,hb4⟩;have HB4:=ZZ (HBD2.out.trans hb4);have HK4:=ZZ (HKC.out W4 HB4.out);have HX4:=ZZ (HXC.out.below HB4.out zL);have HH4:=ZZ (HHC.out.below HB4.out HHC.out.lt);have HW4:=ZZ (HBC.out.trans (HB4.out.mono HBC.out.size));have HO4:=ZZ (HR3.out.below HB4.out zL);have HF4:=ZZ (HRFC.out.below HB4.out zL);obtain⟨r0,f0⟩:=HX4.out.cell 0;obtain⟨r1,f1⟩:=HX4.out.cell 1;obtain⟨r2,f2⟩:=HX4.out.cell 2;have HHS:=ZZ (((HH4.out.other hneN 0 (.int .i64 (k:Int))).other hneN 1 (.int .i64 (f:Int))).other hneN 2 (.slice al nl cl));have HKS:=ZZ HHS.out.cell.1;have HOL4:=ZZ (HOLC.out.below HB4.out zL);have HFS:Hid (RdL ((((W4.setCell ⟨w.heap.size,0,none⟩ (.int .i64 (k:Int))).setCell ⟨w.heap.size,1,none⟩ (.int .i64 (f:Int))).setCell ⟨w.heap.size,2,none⟩ (.slice al nl cl))) _ PF):=ZZ (HPF.out _ (((HOL4.out.set w.heap.size 0 (Nat.lt_succ_self _) (.int .i64 (k:Int))).set w.heap.size 1 (Nat.lt_succ_self _) (.int .i64 (f:Int))).set w.heap.size 2 (Nat.lt_succ_self _) (.slice al nl cl)));have HXS:=ZZ (HX4.out.set3 (.int .i64 (k:Int)) (.int .i64 (f:Int)) (.slice al nl cl));have HOS:=ZZ (((HO4.out.set w.heap.size 0 HLT.out (.int .i64 (k:Int))).set w.heap.size 1 HLT.out (.int .i64 (f:Int))).set w.heap.size 2 HLT.out (.slice al nl cl));have HWS:=ZZ (Zbo HW4.out w.heap.size zL (.int .i64 (k:Int)) (.int .i64 (f:Int)) (.slice al nl cl));clear hb4)
     | (go_at_call 206;refine(HSI2.out _ W4 HF4.out).mono ?_;rintro e W5 ⟨rfl,hb5⟩;have HK5:=ZZ (HH4.out.below hb5 HH4.out.lt).cell.1;have HX5:=ZZ (HX4.out.below hb5 zL);have HW5:=ZZ (HW4.out.trans (hb5.mono HW4.out.size));have HO5:=ZZ (HO4.out.below hb5 zL);obtain⟨s0,g0⟩:=HX5.out.cell 0;obtain⟨s1,g1⟩:=HX5.out.cell 1;obtain⟨s2,g2⟩:=HX5.out.cell 2;have HKT:=ZZ ((((HH4.out.below hb5 HH4.out.lt).other hneN 0 (.int .i64 (k:Int))).other hneN 1 (.int .i64 (f:Int))).other hneN 2 (.slice al nl cl)).cell.1;clear hb5)
     | (go_at_call 206;refine(HSI2.out _ (((W4.setCell ⟨w.heap.size,0,none⟩ (.int .i64 (k:Int))).setCell ⟨w.heap.size,1,none⟩ (.int .i64 (f:Int))).setCell ⟨w.heap.size,2,none⟩ (.slice al nl cl)) HFS.out).mono ?_;rintro e W6 ⟨rfl,hb6⟩;have HK6:=ZZ (HHS.out.below hb6 HHS.out.lt).cell.1;have HX6:=ZZ (HXS.out.below hb6 zL);have HO6:=ZZ (HOS.out.below hb6 zL);have HW6:=ZZ (HWS.out.trans (hb6.mono HWS.out.size));obtain⟨s0,g0⟩:=HX6.out.cell 0;obtain⟨s1,g1⟩:=HX6.out.cell 1;obtain⟨s2,g2⟩:=HX6.out.cell 2;clear hb6))
   all_goals
    go_wp2
    refine bodyPost_ret (v:=.tuple #[.agg #[.int .i64 (k:Int),.int .i64 (f:Int),.slice al nl cl],.int .i64 (SZ:Int),.bool true]) (by simp[results,Tryz.results166,go_sem,s0,s1,s2]) rfl ?_
    refine⟨.slice al nl cl,by rw[HN.out],?_,?_⟩
    ·rw[HN.out]
     first
     | exact HO6.out.rd HOK3.out
     | exact Zbp.rd (((HO5.out.set w.heap.size 0 HLT.out _).set w.heap.size 1 HLT.out _).set w.heap.size 2 HLT.out _) HOK3.out
    ·first
     | exact HW6.out
     | exact Zbo HW5.out w.heap.size zL _ _ _
theorem ZbA {P:Program} {ι:Type} (W:ι->World) (i0:ι) {id:Nat} {Q:Exit->Act->World->Prop} {a:Act} {w:World} {l:List Oper} (hm:P.follows .mixedOrders=true) (hB:Region.lexB .any l.toArray=true) (h0:W i0=w.drew)
 (h:wpQuiet P l.toArray (fun w'=>∃ n,w'=W n) (fun a'=>∀ w',(∃ n,w'=W n)->Q .normal a' w') l a):(Code.region id l.toArray true).wp P Q a w:=
 wp_region_quiet (C:=fun w'=>∃ n,w'=W n) hm hB ⟨i0,h0.symm⟩ (by simpa using h)
theorem Zod (B:Nat) (w:World):∃ (ι:Type) (_:Nonempty ι) (W:ι->World),(∀ i,Below B w (W i))∧∀ w',Below B w w'->∃ i,w'=W i:=
 ⟨{ w' // Below B w w' },⟨⟨w,Below.refl _ _⟩⟩,Subtype.val,fun i=>i.2,fun w' h=>⟨⟨w',h⟩,rfl⟩⟩
theorem Zec (v:Value) (l:List Rec) (w:World) (hr:RdR w v l):
 Calls Tryz.prog 48 #[v] w fun e w'=>e=.returned (.bool (decide (ZaY l)))∧Below w.heap.size w w':=by
 have HR:=ZZ hr
 obtain⟨ao,cap,rfl,hlc,hcm,-,-,hao⟩:=hr
 have hml:(l.length:Int)<=9223372036854775807:=by unfold maxLen at hcm;omega
 have HAO:=ZZ hao
 clear hao hlc hcm
 by_cases h1:1<=l.length
 case neg=>
  have HF:Hid (decide (ZaY l)=false):=decide_eq_false (fun h=>h1 h.1)
  have h1':(l.length:Int)<1:=by omega
  rw[HF.out]
  go_enter Tryz.func48,Tryz.ntmps48
  go_wp2
  go_ret
  exact⟨rfl,Below.refl _ _⟩
 have h1':¬ (l.length:Int)<1:=by omega
 by_cases h2:l.length<=256
 case neg=>
  have HF:Hid (decide (ZaY l)=false):=decide_eq_false (fun h=>h2 h.2.1)
  have h2':256<(l.length:Int):=by omega
  rw[HF.out]
  go_enter Tryz.func48,Tryz.ntmps48
  go_wp2
  go_ret
  exact⟨rfl,Below.refl _ _⟩
 have h2':¬ 256<(l.length:Int):=by omega
 have HALL:=ZZ (fun h=>ZuL (l:=l) h h1 h2)
 have HPART:=ZZ (fun(h:ZaY l) k=>h.part k)
 have HFR:=ZZ (fun r W=>Zju r W)
 obtain⟨D,hD⟩:∃ D,D=decide (ZaY l):=⟨_,rfl⟩
 rw[<-hD]
 have HDT:Hid (ZkE l l.length->D=true):=fun h=>by rw[hD];exact decide_eq_true (HALL.out h)
 have HDF:Hid (∀ k,¬ ZkE l k->D=false):=fun k h=>by rw[hD];exact decide_eq_false (fun hf=>h (HPART.out hf k))
 have HP0:=ZZ (Zsg l)
 have hpos:(0:Int)<(l.length:Int):=by omega
 clear hD HALL HPART h1 h2
 go_enter Tryz.func48,Tryz.ntmps48
 go_wp2
 go_loopw[15] (fun vi wr=>∃ k:Nat,vi=.int .i64 (k:Int)∧k<=l.length∧Hid (ZkE l k)∧Hid (Below w.heap.size w wr)) (fun vi _=>l.length-(intOf vi).toNat)
 case atStart=>exact⟨0,rfl,Nat.zero_le _,HP0,Below.refl _ _⟩
 case round=>
  obtain⟨k,rfl,hk,hP,hB⟩:=hrel
  by_cases hlt:k<l.length
  case neg=>
   obtain rfl:k=l.length:=by omega
   have HT:=ZZ (HDT.out hP.out)
   go_wp2
   go_ret
   rw[HT.out]
   exact⟨rfl,hB.out⟩
  rcases HAO.out with h0 | ⟨c,off,rfl,hc⟩
  ·rw[h0] at hlt;simp at hlt
  have hck:=hc k hlt
  have hc0:=hc 0 (by omega)
  have HBC:=ZZ (fun W (h:Below w.heap.size w W)=>hck.keep (h.block c hck.lt))
  have HB0:=ZZ (fun W (h:Below w.heap.size w W)=>(hc0.keep (h.block c hc0.lt)).1)
  have HPN:=ZZ (Zsh hlt)
  have hh:l.headD Zai=l.getD 0 Zai:=by cases l <;> simp
  rw[hh] at HPN
  have HFH:Hid (ZaF (l.getD k Zai)->ZaF (l.getD 0 Zai)):=ZZ (fun hf=>by
   cases k with
   | zero=>exact hf
   | succ q=>
    refine hP.out.1 _ ?_
    cases l with
    | nil=>simp at hlt
    | cons x t=>simp)
  have hkc:=HBC.out wr hB.out
  obtain⟨c0,c1,c2,c3,c4,c5,c6⟩:=hkc
  have HFK:=ZZ (HFR.out (l.getD k Zai))
  have hFk:∃ bf,bf=decide (ZaF (l.getD k Zai)):=⟨_,rfl⟩
  obtain⟨bf,hbf⟩:=hFk
  rw[<-hbf] at HFK
  have HBF:=ZZ hbf
  unfold ZrL at HFK
  obtain⟨r,hr⟩:∃ r,r=l.getD k Zai:=⟨_,rfl⟩
  rw[<-hr] at HFK HPN HBF HBC HFH c0 c1 c2 c3 c4 c5 c6
  clear hbf hc hck hr hc0 hh
  generalize (l.getD 0 Zai)=r0 at *
  go_upto_region 6 with fail
  obtain⟨W0,hW0⟩:∃ W0,W0=wr.alloc (.cells (ZdG r) 62):=⟨_,rfl⟩
  have hn0:W0.heap.size=wr.heap.size+1:=by rw[hW0];simp
  have HBW:Hid (Below w.heap.size w W0):=ZZ (by rw[hW0];exact hB.out.alloc hB.out.size _)
  have HBX:Hid (Br W0 wr.heap.size (ZdG r)):=ZZ (by rw[hW0];exact heap_alloc_new wr _)
  unfold ZdG at hW0
  rw[<-hW0]
  clear hW0 c0 c1 c2 c3 c4 c5 c6
  obtain⟨ι,hne,V,hV,hmem⟩:=Zod W0.heap.size W0
  have HV:=ZZ hV
  have HM:=ZZ hmem
  obtain⟨i0,hi0⟩:=hmem W0.drew (Below.refl _ _).drew
  have HBV:Hid (∀ i,Below w.heap.size w (V i)):=ZZ (fun i=>HBW.out.trans ((HV.out i).mono HBW.out.size))
  have hbr:∀ i,Br (V i) wr.heap.size (ZdG r):=fun i=>((HV.out i).block _ (by omega)).trans HBX.out
  have d0:∀ i,(V i).cell? ⟨wr.heap.size,0,none⟩=some (.int .i64 r.idx):=fun i=>((hbr i).cell 0).1
  have d1:∀ i,(V i).cell? ⟨wr.heap.size,1,none⟩=some (.int .i64 r.proc):=fun i=>((hbr i).cell 1).1
  have d2:∀ i,(V i).cell? ⟨wr.heap.size,2,none⟩=some (.int .i64 r.seq):=fun i=>((hbr i).cell 2).1
  have d3:∀ i,(V i).cell? ⟨wr.heap.size,3,none⟩=some (.int .i64 r.op.code):=fun i=>((hbr i).cell 3).1
  have d4:∀ i,(V i).cell? ⟨wr.heap.size,4,none⟩=some (.int .i64 r.op.a):=fun i=>((hbr i).cell 4).1
  have d5:∀ i,(V i).cell? ⟨wr.heap.size,5,none⟩=some (.int .i64 r.op.b):=fun i=>((hbr i).cell 5).1
  have d6:∀ i,(V i).cell? ⟨wr.heap.size,6,none⟩=some (.int .i64 r.resp):=fun i=>((hbr i).cell 6).1
  have e0:∀ i,(V i).cell? ⟨c,off,none⟩=some (.int .i64 r0.idx):=fun i=>by
   have h:=HB0.out (V i) (HBV.out i)
   rwa [Nat.zero_mul,Nat.add_zero] at h
  have HCA:Hid (∀ i,Calls Tryz.prog 41 #[.agg #[.int .i64 r.idx,.int .i64 r.proc,.int .i64 r.seq,.int .i64 r.op.code,.int .i64 r.op.a,.int .i64 r.op.b,.int .i64 r.resp]] (V i) fun e w'=>e=.returned (.bool bf)∧∃ m,w'=V m):=ZZ (fun i=>(HFK.out (V i)).mono fun e w' h=>⟨h.1,HM.out w' ((HV.out i).trans (h.2.mono (HV.out i).size))⟩)
  clear hV hmem hbr HFK HB0 HBC
  cases bf with
  | false=>
   have HD:=ZZ (HDF.out (k+1) (fun h=>of_decide_eq_false HBF.out.symm (HPN.out.1 h).2.1))
   refine ZbA V i0 (by kernel_rfl) (by kernel_rfl) hi0.symm ?_
   repeat (go_big_quiet_step ((go_at_call 41;exact HCA.out _)))
   refine wpQuiet_nil ?_
   intro _ hw'
   obtain⟨nq,hw''⟩:=hw'
   subst hw''
   go_wp2
   go_ret
   rw[HD.out]
   exact⟨rfl,HBV.out _⟩
  | true=>
   have HFT:=ZZ (of_decide_eq_true HBF.out.symm)
   obtain⟨-,i1,i2,-⟩:=HFH.out HFT.out
   by_cases hni:r.idx=r0.idx+k
   ·have hneb:(r.idx != r0.idx+k)=false:=by rw[bne_eq_false_iff_eq];exact hni
    have HP1:=ZZ (HPN.out.2 ⟨hP.out,HFT.out,hni⟩)
    clear HPN hni
    refine ZbA V i0 (by kernel_rfl) (by kernel_rfl) hi0.symm ?_
    repeat (go_big_quiet_step ((go_at_call 41;exact HCA.out _)))
    refine wpQuiet_nil ?_
    intro _ hw'
    obtain⟨nq,hw''⟩:=hw'
    subst hw''
    go_wp2
    go_roundw
    case rel=>exact⟨k+1,by go_num,by omega,HP1,HBV.out _⟩
    case measure=>simp[intOf];omega
   ·have hneb:(r.idx != r0.idx+k)=true:=by rw[bne_iff_ne];exact hni
    have HD:=ZZ (HDF.out (k+1) (fun h=>hni (HPN.out.1 h).2.2))
    clear HPN hni
    refine ZbA V i0 (by kernel_rfl) (by kernel_rfl) hi0.symm ?_
    repeat (go_big_quiet_step ((go_at_call 41;exact HCA.out _)))
    refine wpQuiet_nil ?_
    intro _ hw'
    obtain⟨nq,hw''⟩:=hw'
    subst hw''
    go_wp2
    go_ret
    rw[HD.out]
    exact⟨rfl,HBV.out _⟩
def Zzk (w:World) (l:List UInt8) (o:Opn) (e:Ending) (w':World):Prop:=
 ∃ v',e=.returned (.tuple #[v',.int .i64 (if ZcS o then 0 else 1)])∧Own w' w.heap.size v' (if ZcS o then l++ZaN o else l)∧Below w.heap.size w w'
theorem ZuP (v:Value) (l:List UInt8) (o:Opn) (w:World) (hr:Rd w v l) (hlim:l.length<=90000):
 Calls Tryz.prog 185 #[v,opV o] w fun e w'=>Zzk w l o e w':=by
 obtain⟨va,vc,rfl,hvr⟩:∃ va vc,v=.slice va l.length vc∧Rd w (.slice va l.length vc) l:=by
  have h:=hr
  obtain⟨va,vc,rfl,_⟩:=hr
  exact⟨va,vc,rfl,h⟩
 have HR:=ZZ hr
 clear hvr
 have HF:=ZZ (fun w=>Zmh o w)
 have HB0:Hid (∀ X,Below w.heap.size w (w.alloc X)):=fun X=>(Below.refl _ _).alloc zL X
 obtain⟨code,a,b⟩:=o
 clear hr
 show Calls Tryz.prog _ #[_,.agg #[.int .i64 code,.int .i64 a,.int .i64 b]] w _
 have HF':Hid (∀ W,Calls Tryz.prog 80 #[.agg #[.int .i64 code,.int .i64 a,.int .i64 b]] W fun e w'=>e=.returned (.bool (decide (ZcS ⟨code,a,b⟩)))∧Below W.heap.size W w'):=HF.out
 clear HF
 unfold Zzk
 by_cases hf:ZcS ⟨code,a,b⟩
 ·simp only [if_pos hf]
  have HT:=ZZ (decide_eq_true hf)
  have HIA:Hid (I64 a):=(Zdc hf).1
  have HIB:Hid (I64 b):=(Zdc hf).2
  have hc0:0<=code:=hf.1
  have hc1:code<=10:=hf.2.1
  have hl1:=ZfX (n:=code.toNat) (by omega)
  have hl2:=Zxd HIA.out
  have hl3:=Zxd HIB.out
  have HP:Hid (∀ W,Calls Tryz.prog 132 #[.slice none 0 0,.int .i64 code] W fun e w'=>∃ v',e=.returned v'∧Own w' W.heap.size v' (Lib.uvarint code.toNat)∧Below W.heap.size W w'):=fun W=>by
   have h:=ZfU (.slice none 0 0) [] code W (Rd.nil W) (by simp)
   rw[ZdA hc0 (by omega),List.nil_append] at h
   exact h
  have HA:Hid (∀ W,Calls Tryz.prog 142 #[.slice none 0 0,.int .i64 a] W fun e w'=>∃ v',e=.returned v'∧Own w' W.heap.size v' (Lib.uvarint (Lib.zigzag a))∧Below W.heap.size W w'):=fun W=>by
   have h:=Zdi (.slice none 0 0) [] a W (Rd.nil W) (by simp) HIA.out.1 HIA.out.2
   rw[List.nil_append] at h
   exact h
  have HB:Hid (∀ W,Calls Tryz.prog 142 #[.slice none 0 0,.int .i64 b] W fun e w'=>∃ v',e=.returned v'∧Own w' W.heap.size v' (Lib.uvarint (Lib.zigzag b))∧Below W.heap.size W w'):=fun W=>by
   have h:=Zdi (.slice none 0 0) [] b W (Rd.nil W) (by simp) HIB.out.1 HIB.out.2
   rw[List.nil_append] at h
   exact h
  have HE:Hid (ZaN ⟨code,a,b⟩=Lib.uvarint code.toNat++(Lib.uvarint (Lib.zigzag a)++Lib.uvarint (Lib.zigzag b))):=rfl
  rw[HE.out]
  have HCC:Hid (∀ W N v0 v1 v2 v3,N=W.heap.size->Rd W v0 l->Rd W v1 (Lib.uvarint code.toNat)->Rd W v2 (Lib.uvarint (Lib.zigzag a))->Rd W v3 (Lib.uvarint (Lib.zigzag b))->Calls Tryz.prog 131 #[.slice (some ⟨N,0,none⟩) 4 4] (W.alloc (.cells #[v0,v1,v2,v3] 53)) fun e w'=>∃ v',e=.returned v'∧Own w' W.heap.size v' (l++(Lib.uvarint code.toNat++(Lib.uvarint (Lib.zigzag a)++Lib.uvarint (Lib.zigzag b))))∧Below W.heap.size W w'):=fun W N v0 v1 v2 v3 hN h0 h1 h2 h3=>ZuC W N hN v0 v1 v2 v3 _ _ _ _ h0 h1 h2 h3 (by omega)
  clear hf hl1 hl2 hl3 HE HIA HIB hc0 hc1
  generalize Lib.uvarint code.toNat=A at *
  generalize Lib.uvarint (Lib.zigzag a)=LA at *
  generalize Lib.uvarint (Lib.zigzag b)=LB at *
  generalize l++(A++(LA++LB))=LL at *
  go_enter Tryz.func185,Tryz.ntmps185
  go_wp2_with fail
  refine(HF'.out _).mono ?_
  rintro e W1 ⟨rfl,hb1⟩
  rw[HT.out]
  have hx1:Bo W1 w.heap.size _:=(hb1.block w.heap.size (by simp)).trans (heap_alloc_new w _)
  have HX1:=ZZ hx1
  have HB1:=ZZ ((HB0.out _).trans (hb1.mono (HB0.out _).size))
  obtain⟨p0,-⟩:=hx1.cell 0
  obtain⟨p1,-⟩:=hx1.cell 1
  obtain⟨p2,-⟩:=hx1.cell 2
  have hsz1:=HB1.out.size
  clear hb1 hx1
  go_wp2
  go_region_held(fun w'=>w'.cell? ⟨w.heap.size,0,none⟩=some (.int .i64 code)∧w'.cell? ⟨w.heap.size,1,none⟩=some (.int .i64 a)∧w'.cell? ⟨w.heap.size,2,none⟩=some (.int .i64 b)) (go_keep)
   (first
    | (go_at_call 132;refine(HP.out _).mono ?_;rintro e W2 ⟨v2,rfl,ho2,hb2⟩;have hx2:=HX1.out.below (((Below.refl _ _).drew).trans hb2) zL;have HX2:=ZZ hx2;have HB2:=ZZ (HB1.out.trans ((((Below.refl _ _).drew).trans hb2).mono HB1.out.size));obtain⟨a2,c2,rfl,-⟩:=ho2.rd;have HO2:=ZZ ho2.rd;obtain⟨q0,-⟩:=hx2.cell 0;obtain⟨q1,-⟩:=hx2.cell 1;obtain⟨q2,-⟩:=hx2.cell 2;clear ho2 hb2 hx2)
    | (go_at_call_of 142 (Value.int .i64 a);refine(HA.out _).mono ?_;rintro e W3 ⟨v3,rfl,ho3,hb3⟩;have hx3:=HX2.out.below hb3 zL;have HX3:=ZZ hx3;have HB3:=ZZ (HB2.out.trans (hb3.mono HB2.out.size));have HO23:=ZZ (HO2.out.below hb3 zL);obtain⟨a3,c3,rfl,-⟩:=ho3.rd;have HO3:=ZZ ho3.rd;obtain⟨r0,-⟩:=hx3.cell 0;obtain⟨r1,-⟩:=hx3.cell 1;obtain⟨r2,-⟩:=hx3.cell 2;clear ho3 hb3 hx3)
    | (go_at_call_of 142 (Value.int .i64 b);refine(HB.out _).mono ?_;rintro e W4 ⟨v4,rfl,ho4,hb4⟩;have hx4:=HX3.out.below hb4 zL;have HX4:=ZZ hx4;have HB4:=ZZ (HB3.out.trans (hb4.mono HB3.out.size));have HO24:=ZZ (HO23.out.below hb4 zL);have HO34:=ZZ (HO3.out.below hb4 zL);obtain⟨a4,c4,rfl,-⟩:=ho4.rd;have HO4:=ZZ ho4.rd;obtain⟨s0,-⟩:=hx4.cell 0;obtain⟨s1,-⟩:=hx4.cell 1;obtain⟨s2,-⟩:=hx4.cell 2;clear ho4 hb4 hx4)
    | (go_at_call 131;refine(HCC.out W4 W4.heap.size _ _ _ _ rfl (HR.out.below HB4.out zL) HO24.out HO34.out HO4.out).mono ?_;rintro e W5 ⟨v5,rfl,ho5,hb5⟩;have hx5:=HX4.out.below hb5 zL;have HB5:=ZZ (HB4.out.trans (hb5.mono HB4.out.size));have HO5:=ZZ (ho5.mono HB4.out.size);obtain⟨t0,-⟩:=hx5.cell 0;obtain⟨t1,-⟩:=hx5.cell 1;obtain⟨t2,-⟩:=hx5.cell 2;clear ho5 hb5 hx5))
  all_goals
   go_wp2
   go_ret2
   exact⟨_,rfl,HO5.out,HB5.out⟩
 ·simp only [if_neg hf]
  have HT:=ZZ (decide_eq_false hf)
  have HCL:=ZZ (fun W h=>Zsb (.slice va l.length vc) l W h (by omega))
  clear hf
  go_enter Tryz.func185,Tryz.ntmps185
  go_wp2_with fail
  refine(HF'.out _).mono ?_
  rintro e W2 ⟨rfl,hb2⟩
  rw[HT.out]
  have HB2:=ZZ ((HB0.out _).trans (hb2.mono (HB0.out _).size))
  clear hb2
  go_wp2_with fail
  refine(HCL.out _ (HR.out.below HB2.out zL)).mono ?_
  rintro e W3 ⟨v3,rfl,ho3,hb3⟩
  have HO3:=ZZ (ho3.mono HB2.out.size)
  have HB3:=ZZ (HB2.out.trans (hb3.mono HB2.out.size))
  clear ho3 hb3
  go_wp2
  go_ret2
  exact⟨_,rfl,HO3.out,HB3.out⟩
open Go.RowKit Go.Maps
theorem ZuQ:Keyed Tryz.prog 3:=int_keyed Tryz.underlying3
theorem ZxS (w:World):(zeroValue 3).run Tryz.prog w=.ok (.int .i64 0) w:=by kernel_rfl
theorem Zzl {n:Int} (h:I64 n):(Lit.int .i64 n).wf=true:=WalkArith.wf_i64 (by obtain⟨h0,h1⟩:=h;omega)
def ZhE (w:World) (b n:Nat) (f:Int->Int):Prop:=
 ∃ D:DataW Unit,w.ownsMap Tryz.prog 3 (plainElem Tryz.prog 3) b n D∧IsMap D∧∀ p,I64 p->D.atKey (.int .i64 p) (.lit (.int .i64 0))=.lit (.int .i64 (f p))
theorem ZhE.made (w:World):ZhE (w.alloc (.map #[] 0)) w.heap.size 0 (fun _=>0):=
 ⟨.map [],World.ownsMap_made _ _ _ _,isMap_empty,fun _ _=>rfl⟩
theorem ZhE.lt {w:World} {b n:Nat} {f:Int->Int} (h:ZhE w b n f):b<w.heap.size:=by
 obtain⟨D,h1,_⟩:=h
 exact h1.lt
theorem ZhE.keep {w w':World} {b n:Nat} {f:Int->Int} (h:ZhE w b n f) (hk:w'.heap[b]?=w.heap[b]?):ZhE w' b n f:=by
 obtain⟨D,⟨es,clock,hb,r⟩,h2⟩:=h
 exact⟨D,⟨es,clock,hk.trans hb,r⟩,h2⟩
theorem ZhE.below {w w':World} {b n B:Nat} {f:Int->Int} (h:ZhE w b n f) (hb:Below B w w') (hB:w.heap.size<=B):ZhE w' b n f:=
 h.keep (hb.block b (by have:=h.lt;omega))
theorem ZhE.apart {w:World} {b n:Nat} {f:Int->Int} (h:ZhE w b n f) {cs:Array Value} {t:TypeId} {z:Nat × Nat} {g:Nat} (hg:w.heap[g]?=some (.cells cs t z)):g≠b:=by
 obtain⟨D,⟨es,clock,hb,_⟩,_⟩:=h
 intro e
 rw[e,hb] at hg
 cases hg
theorem ZhE.look {w:World} {b n:Nat} {f:Int->Int} (h:ZhE w b n f) {p:Int} (hp:I64 p):(Instr.lookup 183 (.map (some b)) (.int .i64 p) false).run Tryz.prog w=.ok (.int .i64 (f p)) w:=by
 obtain⟨D,h1,_,h3⟩:=h
 obtain⟨c,hrun,hat,_⟩:=h1.lookup_int ZuQ Tryz.underlying183 Tryz.underlying3 (ZxS _) (keyOf_int_mk Tryz.underlying3 (Zzl hp))
 rw[h3 p hp] at hat
 have e:f p=c:=by simpa using hat
 rw[hrun,e]
def Zyo (f:Int->Int) (p x:Int):Int->Int:=fun q=>if p=q then x else f q
theorem ZhE.put {w:World} {b n:Nat} {f:Int->Int} (h:ZhE w b n f) {p x:Int} (hp:I64 p) (hx:I64 x) (hn:n<=1000000000000):
 ∃ w',(Instr.mapUpdate 183 (.map (some b)) (.int .i64 p) (.int .i64 x)).run Tryz.prog w=.ok () w'∧ZhE w' b (n+1) (Zyo f p x)∧w.grownBy w' (some b):=by
 obtain⟨D,h1,h2,h3⟩:=h
 obtain⟨w',hrun,ho,hg⟩:=h1.update ZuQ Tryz.underlying183 (by unfold maxLen;omega) (keyOf_int_mk Tryz.underlying3 (Zzl hp)) (plainElem_int Tryz.underlying3 (Zzl hx))
 refine⟨w',hrun,⟨_,ho,h2.put _ _,fun q hq=>?_⟩,hg⟩
 unfold Zyo
 by_cases e:p=q
 ·rw[if_pos e,<-e,atKey_put_same h2 (by first | exact trivial | simp[WideAt.IsKeyLit])]
 ·rw[if_neg e,atKey_put_other (by intro h;injection h with _ h;exact e h.symm),h3 q hq]
theorem ZhE.own {w:World} {b n:Nat} {f:Int->Int} (h:ZhE w b n f) {B:Nat} {v:Value} {l:List UInt8} (ho:Own w B v l):v.ownBlock=none∨v.ownBlock≠some b:=by
 rcases ho.2 with ⟨hv,_⟩ | ⟨g,cap,cur,hv,_,hg,_⟩
 ·exact .inl (by rw[hv];rfl)
 ·right
  rw[hv]
  have hne:=h.apart hg
  intro e
  exact hne (by simpa[Value.ownBlock] using e)
theorem ZxT (W:World) (N:Nat) (hN:N=W.heap.size) (v0 v1:Value) (l0 l1:List UInt8) (h0:Rd W v0 l0) (h1:Rd W v1 l1) (hlim:l0.length+l1.length<=1000000):
 Calls Tryz.prog 131 #[.slice (some ⟨N,0,none⟩) 2 2] (W.alloc (.cells #[v0,v1] 53)) fun e w'=>∃ v',e=.returned v'∧Own w' W.heap.size v' (l0++l1)∧Below W.heap.size W w':=by
 have hr:=RdL.built W N hN #[v0,v1] [l0,l1] (by simp) (fun j hj=>by
  match j,hj with
  | 0,_=>exact⟨v0,rfl,h0⟩
  | 1,_=>exact⟨v1,rfl,h1⟩)
 have ef:[l0,l1].flatten=l0++l1:=by simp
 refine(Zlk _ _ _ hr (by rw[ef];simp only [List.length_append];omega) (by simp)).mono ?_
 rintro e w' ⟨v',rfl,ho,hb⟩
 rw[ef] at ho
 exact⟨v',rfl,ho.mono (by simp),((Below.refl _ _).alloc zL _).trans (hb.mono (by simp))⟩
theorem ZjS (r:Rec) (d:Int) (w:World) (hr:ZaF r) (hd:I64 d):
 Calls Tryz.prog 133 #[ZrL r,.int .i64 d] w fun e w'=>∃ v',e=.returned v'∧Own w' w.heap.size v' (Lib.uvarint r.proc.toNat++(Lib.uvarint (Lib.zigzag d)++(ZaN r.op++Lib.uvarint (Lib.zigzag r.resp))))∧Below w.heap.size w w':=by
 have HB0:Hid (∀ X,Below w.heap.size w (w.alloc X)):=fun X=>(Below.refl _ _).alloc zL X
 have X1:Hid (∀ cs,Br (w.alloc (.cells cs 62)) w.heap.size cs):=fun cs=>heap_alloc_new w _
 have HO0:=ZZ (fun W=>ZuP (.slice none 0 0) [] r.op W (Rd.nil W) (by simp))
 unfold Zzk at HO0
 rw[if_pos hr.1,if_pos hr.1,List.nil_append] at HO0
 have HRI:=ZZ (Zdq hr)
 have hl3:=ZhX hr.1
 obtain⟨_,_,_,_,_,hp0,hp1,_⟩:=hr
 have hl1:=ZfX (n:=r.proc.toNat) (by omega)
 have hl2:=Zxd hd
 have hl4:=Zxd HRI.out
 have HP:Hid (∀ W,Calls Tryz.prog 132 #[.slice none 0 0,.int .i64 r.proc] W fun e w'=>∃ v',e=.returned v'∧Own w' W.heap.size v' (Lib.uvarint r.proc.toNat)∧Below W.heap.size W w'):=fun W=>by
  have h:=ZfU (.slice none 0 0) [] r.proc W (Rd.nil W) (by simp)
  rw[ZdA hp0 (by omega),List.nil_append] at h
  exact h
 have HA:Hid (∀ W,Calls Tryz.prog 142 #[.slice none 0 0,.int .i64 d] W fun e w'=>∃ v',e=.returned v'∧Own w' W.heap.size v' (Lib.uvarint (Lib.zigzag d))∧Below W.heap.size W w'):=fun W=>by
  have h:=Zdi (.slice none 0 0) [] d W (Rd.nil W) (by simp) hd.1 hd.2
  rw[List.nil_append] at h
  exact h
 have HB:Hid (∀ W,Calls Tryz.prog 142 #[.slice none 0 0,.int .i64 r.resp] W fun e w'=>∃ v',e=.returned v'∧Own w' W.heap.size v' (Lib.uvarint (Lib.zigzag r.resp))∧Below W.heap.size W w'):=fun W=>by
  have h:=Zdi (.slice none 0 0) [] r.resp W (Rd.nil W) (by simp) HRI.out.1 HRI.out.2
  rw[List.nil_append] at h
  exact h
 have HCC:Hid (∀ W N v0 v1 v2 v3,N=W.heap.size->Rd W v0 (Lib.uvarint r.proc.toNat)->Rd W v1 (Lib.uvarint (Lib.zigzag d))->Rd W v2 (ZaN r.op)->Rd W v3 (Lib.uvarint (Lib.zigzag r.resp))->Calls Tryz.prog 131 #[.slice (some ⟨N,0,none⟩) 4 4] (W.alloc (.cells #[v0,v1,v2,v3] 53)) fun e w'=>∃ v',e=.returned v'∧Own w' W.heap.size v' (Lib.uvarint r.proc.toNat++(Lib.uvarint (Lib.zigzag d)++(ZaN r.op++Lib.uvarint (Lib.zigzag r.resp))))∧Below W.heap.size W w'):=fun W N v0 v1 v2 v3 hN h0 h1 h2 h3=>ZuC W N hN v0 v1 v2 v3 _ _ _ _ h0 h1 h2 h3 (by omega)
 clear hl1 hl2 hl3 hl4 HRI hp0 hp1 hd
 unfold opV at HO0
 obtain⟨idx,proc,seq,⟨code,a,b⟩,resp⟩:=r
 show Calls Tryz.prog _ #[.agg #[.int .i64 idx,.int .i64 proc,.int .i64 seq,.int .i64 code,.int .i64 a,.int .i64 b,.int .i64 resp],.int .i64 d] w _
 dsimp only at *
 generalize Lib.uvarint proc.toNat=A at *
 generalize Lib.uvarint (Lib.zigzag d)=LA at *
 generalize Lib.uvarint (Lib.zigzag resp)=LB at *
 generalize ZaN ⟨code,a,b⟩=LO at *
 generalize A++(LA++(LO++LB))=LL at *
 go_enter Tryz.func133,Tryz.ntmps133
 go_wp2_with fail
 refine(HO0.out _).mono ?_
 rintro e W1 ⟨v1,rfl,ho1,hb1⟩
 have hx1:Br W1 w.heap.size _:=(X1.out _).below hb1 zL
 have HX1:=ZZ hx1
 have HB1:=ZZ ((HB0.out _).trans (hb1.mono (HB0.out _).size))
 have HOP:=ZZ ho1.rd
 obtain⟨a1,c1,rfl,-⟩:=ho1.rd
 obtain⟨p1,-⟩:=hx1.cell 1
 obtain⟨p6,-⟩:=hx1.cell 6
 have hsz1:=HB1.out.size
 clear hb1 hx1 ho1 HO0
 go_wp2
 go_region_held(fun w'=>w'.cell? ⟨w.heap.size,1,none⟩=some (.int .i64 proc)∧w'.cell? ⟨w.heap.size,6,none⟩=some (.int .i64 resp)) (go_keep)
  (first
   | (go_at_call 132;refine(HP.out _).mono ?_;rintro e W2 ⟨v2,rfl,ho2,hb2⟩;have hx2:=HX1.out.below (((Below.refl _ _).drew).trans hb2) zL;have HX2:=ZZ hx2;have HB2:=ZZ (HB1.out.trans ((((Below.refl _ _).drew).trans hb2).mono HB1.out.size));have HOP2:=ZZ (HOP.out.below (((Below.refl _ _).drew).trans hb2) zL);obtain⟨a2,c2,rfl,-⟩:=ho2.rd;have HO2:=ZZ ho2.rd;obtain⟨q1,-⟩:=hx2.cell 1;obtain⟨q6,-⟩:=hx2.cell 6;clear ho2 hb2 hx2)
   | (go_at_call_of 142 (Value.int .i64 d);refine(HA.out _).mono ?_;rintro e W3 ⟨v3,rfl,ho3,hb3⟩;have hx3:=HX2.out.below hb3 zL;have HX3:=ZZ hx3;have HB3:=ZZ (HB2.out.trans (hb3.mono HB2.out.size));have HO23:=ZZ (HO2.out.below hb3 zL);have HOP3:=ZZ (HOP2.out.below hb3 zL);obtain⟨a3,c3,rfl,-⟩:=ho3.rd;have HO3:=ZZ ho3.rd;obtain⟨r1,-⟩:=hx3.cell 1;obtain⟨r6,-⟩:=hx3.cell 6;clear ho3 hb3 hx3)
   | (go_at_call_of 142 (Value.int .i64 resp);refine(HB.out _).mono ?_;rintro e W4 ⟨v4,rfl,ho4,hb4⟩;have hx4:=HX3.out.below hb4 zL;have HX4:=ZZ hx4;have HB4:=ZZ (HB3.out.trans (hb4.mono HB3.out.size));have HO24:=ZZ (HO23.out.below hb4 zL);have HO34:=ZZ (HO3.out.below hb4 zL);have HOP4:=ZZ (HOP3.out.below hb4 zL);obtain⟨a4,c4,rfl,-⟩:=ho4.rd;have HO4:=ZZ ho4.rd;obtain⟨s1,-⟩:=hx4.cell 1;obtain⟨s6,-⟩:=hx4.cell 6;clear ho4 hb4 hx4)
   | (go_at_call 131;refine(HCC.out W4 W4.heap.size _ _ _ _ rfl HO24.out HO34.out HOP4.out HO4.out).mono ?_;rintro e W5 ⟨v5,rfl,ho5,hb5⟩;have hx5:=HX4.out.below hb5 zL;have HB5:=ZZ (HB4.out.trans (hb5.mono HB4.out.size));have HO5:=ZZ (ho5.mono HB4.out.size);obtain⟨t1,-⟩:=hx5.cell 1;obtain⟨t6,-⟩:=hx5.cell 6;clear ho5 hb5 hx5))
 all_goals
  go_wp2
  go_ret
  exact⟨_,rfl,HO5.out,HB5.out⟩
theorem ZjT (l:List Rec) (r:Rec):Zyo (Zar l) r.proc r.seq=Zar (l++[r]):=by
 funext q
 unfold Zyo
 rw[Zne]
theorem Br.own {w:World} {b:Nat} {cs:Array Value} (h:Br w b cs) {B:Nat} {v:Value} {l:List UInt8} (ho:Own w B v l):some b≠v.ownBlock:=by
 rcases ho.2 with ⟨hv,_⟩ | ⟨g,cap,cur,hv,_,hg,_⟩
 ·rw[hv]
  intro e
  cases e
 ·rw[hv]
  intro e
  have e':b=g:=by simpa[Value.ownBlock] using e
  unfold Br at h
  rw[e',hg] at h
  have h3:(5:TypeId)=62:=by
   injection h with h
   injection h
  exact absurd h3 (by decide)
theorem Zil (v:Value) (l:List Rec) (w:World) (hr:RdR w v l):
 Calls Tryz.prog 90 #[v] w fun e w'=>Zmq w l e w':=by
 have HR:=ZZ hr
 have HF:=ZZ (fun W h=>Zec v l W h)
 obtain⟨ao,cap,rfl,hlc,hcm,-,-,hao⟩:=hr
 have hml:(l.length:Int)<=9223372036854775807:=by unfold maxLen at hcm;omega
 have HAO:=ZZ hao
 clear hao hlc hcm
 unfold Zmq
 by_cases hf:ZaY l
 case neg=>
  simp only [if_neg hf]
  rw[decide_eq_false hf] at HF
  clear hf
  go_enter Tryz.func90,Tryz.ntmps90
  go_wp2_with fail
  refine(HF.out _ HR.out).mono ?_
  rintro e W1 ⟨rfl,hb1⟩
  have HB1:=ZZ hb1
  clear hb1
  go_wp2
  go_ret2
  exact⟨_,rfl,Own.nil _ _,HB1.out⟩
 simp only [if_pos hf]
 rw[decide_eq_true hf] at HF
 have h1:1<=l.length:=hf.1
 have h2:l.length<=256:=hf.2.1
 rcases HAO.out with h0 | ⟨c,off,rfl,hc⟩
 ·rw[h0] at h1;simp at h1
 have HAT:Hid (∀ k,k<l.length->∀ W,Below w.heap.size w W->Zky W c (off+k*7) (l.getD k Zai)):=ZZ (fun k hk W h=>(hc k hk).keep (h.block c (hc k hk).lt))
 have HFR:Hid (∀ k,k<l.length->ZaF (l.getD k Zai)):=ZZ (fun k hk=>hf.2.2.1 _ (by simp[List.getD,hk]))
 have HFT:Hid (∀ k,∀ r ∈ l.take k,ZaF r):=ZZ (fun k r hr=>hf.2.2.1 r (List.mem_of_mem_take hr))
 have hh:l.headD Zai=l.getD 0 Zai:=by cases l <;> simp
 obtain⟨_,i0,i1,_⟩:=HFR.out 0 h1
 have HEB:Hid (ZcU l=(Lib.uvarint (l.getD 0 Zai).idx.toNat++Lib.uvarint l.length)++Zbf [] (l.take l.length)):=ZZ (by
  unfold ZcU
  rw[hh,List.take_length,List.append_assoc])
 have HNX:=ZZ (fun k hk=>Zrr l k hk)
 have HLN:Hid (∀ k,(Zbf [] (l.take k)).length<=60*256):=ZZ (fun k=>by
  have h3:=ZnY (l.take k) [] (fun r hr=>by simp at hr) (HFT.out k)
  have h4:(l.take k).length<=l.length:=by simp;omega
  omega)
 have u1:=ZfX (n:=(l.getD 0 Zai).idx.toNat) (by omega)
 have u2:=ZfX (n:=l.length) (by omega)
 have HP1:Hid (∀ W,Calls Tryz.prog 132 #[.slice none 0 0,.int .i64 (l.getD 0 Zai).idx] W fun e w'=>∃ v',e=.returned v'∧Own w' W.heap.size v' (Lib.uvarint (l.getD 0 Zai).idx.toNat)∧Below W.heap.size W w'):=fun W=>by
  have h:=ZfU (.slice none 0 0) [] (l.getD 0 Zai).idx W (Rd.nil W) (by simp)
  rw[ZdA i0 (by omega),List.nil_append] at h
  exact h
 have HP2:Hid (∀ W,Calls Tryz.prog 132 #[.slice none 0 0,.int .i64 (l.length:Int)] W fun e w'=>∃ v',e=.returned v'∧Own w' W.heap.size v' (Lib.uvarint l.length)∧Below W.heap.size W w'):=fun W=>by
  have h:=ZfU (.slice none 0 0) [] (l.length:Int) W (Rd.nil W) (by simp)
  rw[ZdA (by omega) (by omega),Int.toNat_natCast,List.nil_append] at h
  exact h
 rw[HEB.out]
 have hHl:(Lib.uvarint (l.getD 0 Zai).idx.toNat++Lib.uvarint l.length).length<=20:=by rw[List.length_append];omega
 have hc00:=(HAT.out 0 h1)
 have HC0:=ZZ hc00
 have HLS0:=ZZ hf.2.2.1
 have HCC:Hid (∀ W N v0 v1,N=W.heap.size->Rd W v0 (Lib.uvarint (l.getD 0 Zai).idx.toNat)->Rd W v1 (Lib.uvarint l.length)->Calls Tryz.prog 131 #[.slice (some ⟨N,0,none⟩) 2 2] (W.alloc (.cells #[v0,v1] 53)) fun e w'=>∃ v',e=.returned v'∧Own w' W.heap.size v' (Lib.uvarint (l.getD 0 Zai).idx.toNat++Lib.uvarint l.length)∧Below W.heap.size W w'):=fun W N v0 v1 hN h0 h1=>ZxT W N hN v0 v1 _ _ h0 h1 (by omega)
 clear hf hc hh HEB i0 i1 u1 u2 hc00
 generalize (l.getD 0 Zai)=r0 at *
 generalize Lib.uvarint r0.idx.toNat=A at *
 obtain⟨A2,hA2⟩:∃ A2,A2=Lib.uvarint l.length:=⟨_,rfl⟩
 rw[<-hA2] at HP2 HCC hHl ⊢
 clear hA2
 obtain⟨H,hH⟩:∃ H,H=A++A2:=⟨_,rfl⟩
 rw[<-hH] at HCC hHl ⊢
 clear hH
 have hmm:=@run_makeMap Tryz.prog
 have hpos:(0:Int)<(l.length:Int):=by omega
 go_enter Tryz.func90,Tryz.ntmps90
 go_wp2_with fail
 refine(HF.out _ HR.out).mono ?_
 rintro e W1 ⟨rfl,hb1⟩
 have HB1:=ZZ hb1
 have hk0:W1.cell? ⟨c,off,none⟩=some (.int .i64 r0.idx):=by
  have h:=(HC0.out W1 hb1).1
  rwa [Nat.zero_mul,Nat.add_zero] at h
 clear hb1
 go_wp2_with fail
 refine(HP1.out _).mono ?_
 rintro e W2 ⟨v2,rfl,ho2,hb2⟩
 obtain⟨a2,n2,rfl,-⟩:=ho2.rd
 have HO2:=ZZ ho2.rd
 have HB2:=ZZ (HB1.out.trans (hb2.mono HB1.out.size))
 clear ho2 hb2 hk0 HB1
 go_wp2_with fail
 refine(HP2.out _).mono ?_
 rintro e W3 ⟨v3,rfl,ho3,hb3⟩
 obtain⟨a3,n3,rfl,-⟩:=ho3.rd
 have HO23:=ZZ (HO2.out.below hb3 zL)
 have HO3:=ZZ ho3.rd
 have HB3:=ZZ (HB2.out.trans (hb3.mono HB2.out.size))
 clear ho3 hb3 HO2 HB2 HP1 HP2
 go_wp2_with fail
 refine(HCC.out W3 W3.heap.size _ _ rfl HO23.out HO3.out).mono ?_
 rintro e W4 ⟨v4,rfl,ho4,hb4⟩
 have HO4:=ZZ (ho4.mono HB3.out.size)
 have HB4:=ZZ (HB3.out.trans (hb4.mono HB3.out.size))
 clear ho4 hb4 HO23 HO3 HB3 HCC
 have HO5:Hid (Own (W4.alloc (.map #[] 0)) w.heap.size v4 H):=ZZ (HO4.out.below ((Below.refl _ _).alloc zL _) zL)
 have HM5:=ZZ (ZhE.made W4)
 have HB5:Hid (Below w.heap.size w (W4.alloc (.map #[] 0))):=ZZ (HB4.out.alloc HB4.out.size _)
 have HN:=ZZ HB4.out.size
 go_wp2
 go_loopw[4,24] (fun vo vi wr=>∃ k:Nat,vi=.int .i64 (k:Int)∧k<=l.length∧Hid (Own wr w.heap.size vo (H++Zbf [] (l.take k)))∧Hid (ZhE wr W4.heap.size k (Zar (l.take k)))∧Hid (Below w.heap.size w wr)) (fun _ vi _=>l.length-(intOf vi).toNat)
 case atStart=>exact⟨0,rfl,Nat.zero_le _,by simpa[Zbf] using HO5,HM5,HB5⟩
 case round=>
  clear HO5 HB5 HM5 HO4 HB4
  obtain⟨k,rfl,hk,hO,hM,hB⟩:=hrel
  by_cases hlt:k<l.length
  case neg=>
   have hke:l.take k=l.take l.length:=by rw[List.take_length,List.take_of_length_le (by omega)]
   rw[hke] at hO
   clear hke
   go_wp2
   go_ret2
   exact⟨_,rfl,hO.out,hB.out⟩
  have hqi:(k:Int)<(l.length:Int):=by omega
  have hfr:=HFR.out k hlt
  have HDI:Hid (I64 ((l.getD k Zai).seq-Zar (l.take k) (l.getD k Zai).proc)):=ZZ (Zgt (HFT.out k) hfr)
  have HRB:Hid (∀ W,Calls Tryz.prog 133 #[ZrL (l.getD k Zai),.int .i64 ((l.getD k Zai).seq-Zar (l.take k) (l.getD k Zai).proc)] W fun e w'=>∃ v',e=.returned v'∧Own w' W.heap.size v' (Zbt (l.take k) (l.getD k Zai))∧Below W.heap.size W w'):=ZZ (fun W=>ZjS (l.getD k Zai) ((l.getD k Zai).seq-Zar (l.take k) (l.getD k Zai).proc) W hfr HDI.out)
  have HPI:Hid (I64 (l.getD k Zai).proc):=ZZ (by obtain⟨_,_,_,_,_,hp0,hp1,_⟩:=hfr;exact⟨by omega,by omega⟩)
  have HSI:Hid (I64 (l.getD k Zai).seq):=ZZ (by obtain⟨_,_,_,hs0,hs1,_⟩:=hfr;exact⟨by omega,by omega⟩)
  have HEL:=ZZ (Zlm (HFT.out k) hfr)
  have HRA:=ZZ (HAT.out k hlt)
  have hLK:=HLN.out k
  have HLK:Hid ((H++Zbf [] (l.take k)).length<=20000):=ZZ (by rw[List.length_append];omega)
  have HNK:Hid (H++Zbf [] (l.take (k+1))=(H++Zbf [] (l.take k))++Zbt (l.take k) (l.getD k Zai)):=ZZ (by
   rw[HNX.out k hlt,List.append_assoc])
  have HMK:Hid (Zyo (Zar (l.take k)) (l.getD k Zai).proc (l.getD k Zai).seq=Zar (l.take (k+1))):=ZZ (by
   rw[ZjT,ZhB hlt])
  clear hLK hfr
  obtain⟨r,hr⟩:∃ r,r=l.getD k Zai:=⟨_,rfl⟩
  rw[<-hr] at HDI HRB HPI HSI HEL HRA HNK HMK
  unfold ZrL at HRB
  clear hr
  have HLK2:Hid (∀ X,(Instr.lookup 183 (.map (some W4.heap.size)) (.int .i64 r.proc) false).run Tryz.prog (wr.alloc X)=.ok (.int .i64 (Zar (l.take k) r.proc)) (wr.alloc X)):=ZZ (fun X=>(hM.out.below ((Below.refl _ _).alloc zL X) zL).look HPI.out)
  obtain⟨ls,hls⟩:∃ ls,ls=Zar (l.take k) r.proc:=⟨_,rfl⟩
  rw[<-hls] at HDI HRB HLK2
  clear hls
  obtain⟨E,hE⟩:∃ E,E=Zbt (l.take k) r:=⟨_,rfl⟩
  rw[<-hE] at HRB HEL HNK
  clear hE
  obtain⟨P0,hP0⟩:∃ P0,P0=H++Zbf [] (l.take k):=⟨_,rfl⟩
  rw[<-hP0] at hO HLK HNK
  clear hP0
  have L0:=HLK.out
  have L1:=HEL.out
  have hdw:IntKind.i64.wrap (r.seq-ls)=r.seq-ls:=ZoS HDI.out
  have hlook:=HLK2.out
  obtain⟨c0,c1,c2,c3,c4,c5,c6⟩:=HRA.out wr hB.out
  obtain⟨oa,oc,rfl⟩:∃ oa oc,u4=.slice oa P0.length oc:=by
   obtain⟨oa,oc,h,-⟩:=hO.out.rd
   exact⟨oa,oc,h⟩
  have HX0:Hid (∀ cs,Br (wr.alloc (.cells cs 62)) wr.heap.size cs):=fun cs=>heap_alloc_new wr _
  have HBA:Hid (∀ X,Below wr.heap.size wr (wr.alloc X)):=fun X=>(Below.refl _ _).alloc zL X
  clear HLK2 HDI HLK HEL
  go_wp2_with fail
  refine(HRB.out _).mono ?_
  rintro e W5 ⟨v5,rfl,ho5,hb5⟩
  obtain⟨a5,n5,rfl,-⟩:=ho5.rd
  have hb05:Below wr.heap.size wr W5:=(HBA.out _).trans (hb5.mono (HBA.out _).size)
  have HR5:=ZZ ho5.rd
  have HO5:=ZZ (hO.out.below hb05 zL)
  have HM5:=ZZ (hM.out.below hb05 zL)
  have HX5:Hid (Br W5 wr.heap.size _):=ZZ ((HX0.out _).below hb5 zL)
  have HB5:=ZZ (hB.out.trans (hb05.mono hB.out.size))
  have HSZ:=ZZ HB5.out.size
  clear ho5 hb5 hb05 hO hM hB HX0 HBA c0 c1 c2 c3 c4 c5 c6 hlook HRB HRA
  go_wp2_with(at_builtin;refine Zhy _ rfl _ _ rfl w.heap.size _ P0 rfl HO5.out _ E rfl HR5.out (by omega) HSZ.out ?_)
  intro v6 W6 ho6 hg6
  rw[<-HNK.out] at ho6
  have HO6:=ZZ ho6
  have HX6:Hid (Br W6 wr.heap.size _):=ZZ ((hg6.block _ HX5.out.lt (HX5.out.own HO5.out)).trans HX5.out)
  have HM6:=ZZ (HM5.out.keep (hg6.block _ HM5.out.lt (by
   rcases HM5.out.own HO5.out with h | h
   ·rw[h];exact fun e=>by cases e
   ·exact fun e=>h e.symm)))
  have HB6:=ZZ (HB5.out.grown hg6 HSZ.out (fun j hj=>by
   rcases HO5.out.2 with ⟨hv,_⟩ | ⟨g,cap,cur,hv,hbg,_⟩
   ·rw[hv] at hj;cases hj
   ·rw[hv] at hj
    have e':g=j:=by simpa[Value.ownBlock] using hj
    omega))
  clear ho6 hg6 HO5 HX5 HM5 HB5 HSZ HR5
  obtain⟨W7,hrun,hm7,hg7⟩:=HM6.out.put HPI.out HSI.out (by omega)
  rw[HMK.out] at hm7
  have HM7:=ZZ hm7
  have HO7:Hid (Own W7 w.heap.size v6 (H++Zbf [] (l.take (k+1)))):=ZZ (World.ownsRow.kept HO6.out hg7 (HM6.out.own HO6.out))
  have HB7:=ZZ (HB6.out.grown hg7 HB6.out.size (fun j hj=>by cases hj;exact HN.out))
  obtain⟨q1,-⟩:=HX6.out.cell 1
  obtain⟨q2,-⟩:=HX6.out.cell 2
  clear hm7 hg7 HM6 HO6 HB6 HX6
  go_wp2
  go_roundw
  case rel=>exact⟨k+1,by go_num,by omega,HO7,HM7,HB7⟩
  case measure=>simp[intOf];omega
theorem ZkG (v:Value) (l:List Rec) (w:World) (hr:RdR w v l) (hf:ZaY l) (hlen:(ZcU l).length<=1048576):
 Calls Tryz.prog 49 #[v] w fun e w'=>∃ v',e=.returned v'∧Own w' w.heap.size v' (Zad (ZcU l))∧Below w.heap.size w w':=by
 have HE:=ZZ (Zil v l w hr)
 unfold Zmq at HE
 rw[if_pos hf,if_pos hf] at HE
 have HF:=ZZ (fun v1 W (h:Rd W v1 (ZcU l))=>ZhA v1 _ W h)
 rw[Zmr hlen] at HF
 obtain⟨ao,cap,rfl,-⟩:=hr
 generalize ZcU l=B at *
 generalize Zad B=FB at *
 clear hf hlen
 go_enter Tryz.func49,Tryz.ntmps49
 go_wp2_with fail
 refine HE.out.mono ?_
 rintro e W1 ⟨v1,rfl,ho1,hb1⟩
 have HR1:=ZZ ho1.rd
 have HB1:=ZZ hb1
 clear ho1 hb1
 go_wp2_with fail
 refine(HF.out _ _ HR1.out).mono ?_
 rintro e W2 ⟨v2,rfl,ho2,hb2⟩
 have HO2:=ZZ (ho2.mono HB1.out.size)
 have HB2:=ZZ (HB1.out.trans (hb2.mono HB1.out.size))
 clear ho2 hb2
 go_wp2
 go_ret
 exact⟨_,rfl,HO2.out,HB2.out⟩
theorem Zmu {M I:Nat->Prop} {p pd:Nat} {L:Zhz} {s:Sto} (w:World) (h:ZeO M I w p pd L s) (hn:Ztd s) (hk:0<=s.now.st.kind∧s.now.st.kind<6) (hx:s.next<4611686018427387904) (hx0:0<=s.next):
 Calls Tryz.prog 51 #[ptr p] w fun e w'=>∃ v',e=.returned v'∧Own w' w.heap.size v' (Zad (Zbk 3 s.now.st.kind.toNat s.next.toNat))∧Below w.heap.size w w':=by
 have HH:=ZZ h
 have HNX:Hid (∀ W,Below w.heap.size w W->Calls Tryz.prog 14 #[ptr p] W fun e w'=>e=.returned (.int .i64 s.next)∧Below w.heap.size w w'):=ZZ (fun W hW=>(ZjH W (h.below hW) hn).mono (by
  rintro e w' ⟨rfl,hb⟩
  exact⟨rfl,hW.trans (hb.mono hW.size)⟩))
 have HHD:Hid (∀ W,Below w.heap.size w W->Calls Tryz.prog 93 #[.int .i64 3,.int .i64 s.now.st.kind,.int .i64 s.next] W fun e w'=>∃ v',e=.returned (.tuple #[v',.int .i64 0])∧Own w' w.heap.size v' (Zad (Zbk 3 s.now.st.kind.toNat s.next.toNat))∧Below w.heap.size w w'):=ZZ (fun W hW=>by
  have hg:=Zoc 3 s.now.st.kind s.next W
  have hho:ZhY s.now.st.kind s.next:=⟨hk.1,hk.2,hx0,hx⟩
  have e1:ZbP 3 s.now.st.kind s.next=0:=by unfold ZbP;rw[if_pos (by decide),if_pos hho]
  have e2:Zik 3 s.now.st.kind s.next=Zad (Zbk 3 s.now.st.kind.toNat s.next.toNat):=by unfold Zik;rw[if_pos (by decide),if_pos hho];rfl
  unfold ZqS at hg
  rw[e1,e2] at hg
  refine hg.mono ?_
  rintro e w' ⟨v',rfl,ho,hb⟩
  exact⟨v',rfl,ho.mono hW.size,hW.trans (hb.mono hW.size)⟩)
 have HKP:Hid (∀ W,Below w.heap.size w W->W.cell? ⟨p,6,none⟩=some (.int .i64 s.now.st.kind)):=ZZ (fun W hW=>by
  obtain⟨-,-,-,-,-,⟨-,c6,-⟩,-⟩:=(HH.out.below hW).cs
  exact c6)
 have HSD:Hid (Below w.heap.size w w.drew):=ZZ (Below.refl _ _).drew
 generalize Zad (Zbk 3 s.now.st.kind.toNat s.next.toNat)=FB at *
 generalize s.now.st.kind=kd at *
 generalize s.next=nx at *
 clear h HH hn
 go_enter Tryz.func51,Tryz.ntmps51
 go_upto_region 1 with fail
 go_cut[3,4] (fun v3 v4 wc=>v4=.int .i64 0∧Hid (Own wc w.heap.size v3 FB)∧Hid (Below w.heap.size w wc))
 case first=>
  go_region_held(fun W=>W.cell? ⟨p,6,none⟩=some (.int .i64 kd))
   (first | (with_reducible exact HKP.out _ HSD.out) | (with_reducible exact HKP.out _ HB1.out) | (with_reducible exact HKP.out _ HB2.out))
   (first
    | (go_at_call 14;refine(HNX.out _ HSD.out).mono ?_;rintro e W1 ⟨rfl,hb1⟩;have HB1:=ZZ hb1;clear hb1)
    | (go_at_call 93;refine(HHD.out _ HB1.out).mono ?_;rintro e W2 ⟨v2,rfl,ho2,hb2⟩;have HO2:=ZZ ho2;have HB2:=ZZ hb2;clear ho2 hb2))
  all_goals
   go_wp2_with fail
   go_meet
   exact⟨rfl,HO2,HB2⟩
 case rest=>
  obtain⟨rfl,HO,HB⟩:=hcut
  go_wp2
  go_ret
  exact⟨_,rfl,HO.out,HB.out⟩
def ZxU (t:List Ent):Prop:=ZiS t∧∀ e ∈ t,0<=e.proc∧e.proc<=64
theorem Zoe:∀ (t:List Ent) (a:Int),ZiS t->(∀ e ∈ t,a<=e.proc∧e.proc<=64)->(t.length:Int)<=max 0 (65-a)
 | [],a,_,_=>by simp only [List.length_nil];omega
 | e::t,a,h,hb=>by
  unfold ZiS at h
  rw[List.pairwise_cons] at h
  have h1:=hb e List.mem_cons_self
  have ih:=Zoe t (e.proc+1) h.2 (fun x hx=>⟨by have:=h.1 x hx;omega,(hb x (List.mem_cons_of_mem _ hx)).2⟩)
  rw[List.length_cons]
  omega
theorem ZxU.few {t:List Ent} (h:ZxU t):t.length<=65:=by
 have:=Zoe t 0 h.1 h.2
 omega
theorem ZxU.note {t:List Ent} (h:ZxU t) {e:Ent} (h0:0<=e.proc) (h1:e.proc<=64):ZxU (ZeW t e):=by
 refine⟨ZiT h.1,fun x hx=>?_⟩
 rw[Znb] at hx
 rcases hx with rfl | ⟨hx,_⟩
 ·exact⟨h0,h1⟩
 ·exact h.2 x hx
theorem Zhg.tabR {t:List Ent} (h:Zhg t):ZxU t:=⟨h.rises,fun e he=>by
 have:=h.mem e he
 unfold ZfP at this
 omega⟩
def SnS (s:ZaX):Prop:=Zcw s.st∧ZxU s.tab
theorem SnS.next {s:ZaX} {r:Rec} (h:SnS s) (hf:ZaF r):SnS (Zkt s r):=by
 refine⟨ZiX h.1 r.op,?_⟩
 obtain⟨-,-,-,-,-,h0,h1,-⟩:=hf
 exact h.2.note h0 h1
theorem SnS.take:∀ {l:List Rec} {s:ZaX},SnS s->(ZaG s l).2=0->SnS (ZaG s l).1
 | [],_,h,_=>h
 | r::l,s,h,h0=>by
  rw[ZaG] at h0 ⊢
  split at h0
  ·cases h0
  ·rename_i h1
   rw[if_neg h1]
   split at h0
   ·cases h0
   ·rename_i h2
    rw[if_neg h2]
    exact SnS.take (h.next (by
     by_cases hf:ZaF r
     ·exact hf
     ·exact absurd hf h2)) h0
structure OkS (s:Sto):Prop where
 log:OkG s.log
 nx:s.now.idx=s.next
 now:SnS s.now
 cur:s.cur≠0->s.log.pcs.length≠0
 sy:I64 s.synced
 cu:I64 s.cur
theorem OkS.num {s:Sto} (h:OkS s):Ztd s:=⟨h.log.f0,h.log.top,h.sy,h.cu⟩
theorem OkG.recOk {b:Lgb} (h:OkG b):∀ r ∈ b.recs,Zfw r:=fun r hr=>ZeB (h.fits r hr)
theorem SD.begin {K:Nat->Prop} {w:World} {pd p:Nat} {s:Sto} {d:Dk} {N T:Nat} (h:SD K w pd p s d N T) (hK:∀ k,K k->k<w.heap.size) (name first:Int) (hlim:s.log.pcs.length<=1000000):
 Calls Tryz.prog 53 #[.pointer (some ⟨p,1,none⟩),.int .i64 name,.int .i64 first] w fun e w'=>e=.returned (.tuple #[])∧SD K w' pd p { s with log:=s.log.start name first } d N T∧ZaE (fun k=>¬ K k) w w':=by
 obtain⟨F,M,I,L,h1,h2,h3,h4,h5,h6,h7⟩:=h
 refine(Zlj 76 (by decide) (by decide) p 1 _ L.rv L.pv s.log name first w h2.toLog hlim).mono ?_
 rintro e w' ⟨he,hd⟩
 obtain⟨M',L',g1,-,-,g2,g3⟩:=h2.ofLog hd
 exact⟨he,SD.own hK h1 h3 h4 h5 h6 h7 g2 g1 g3 (fun _ hk=>.inl hk)⟩
theorem SD.add {K:Nat->Prop} {w:World} {pd p:Nat} {s:Sto} {d:Dk} {N T:Nat} (h:SD K w pd p s d N T) (hK:∀ k,K k->k<w.heap.size) (vl:Value) (l:List Rec) (hr:RdR w vl l) (hp0:s.log.pcs.length≠0) (hlim:s.log.pcs.length<=1000000) (hrl:s.log.recs.length+l.length<=10000000) (hst:∀ q ∈ s.log.pcs,0<=q.stop∧q.stop<=4611686018427387904):
 Calls Tryz.prog 54 #[.pointer (some ⟨p,1,none⟩),vl] w fun e w'=>e=.returned (.tuple #[])∧SD K w' pd p { s with log:=s.log.add l } d N T∧ZaE (fun k=>¬ K k) w w':=by
 obtain⟨F,M,I,L,h1,h2,h3,h4,h5,h6,h7⟩:=h
 refine(Zuy 76 (by decide) (by decide) p 1 _ L.rv L.pv s.log vl l w h2.toLog hr hp0 hlim hrl hst).mono ?_
 rintro e w' ⟨he,hd⟩
 obtain⟨M',L',g1,-,-,g2,g3⟩:=h2.ofLog hd
 exact⟨he,SD.own hK h1 h3 h4 h5 h6 h7 g2 g1 g3 (fun _ hk=>.inl hk)⟩
def Zmv (w:World) (p o:Nat) (x0 x1 x2 x3 x4 x5:Value):World:=(((((w.setCell ⟨p,o,none⟩ x0).setCell ⟨p,o+1,none⟩ x1).setCell ⟨p,o+2,none⟩ x2).setCell ⟨p,o+3,none⟩ x3).setCell ⟨p,o+4,none⟩ x4).setCell ⟨p,o+5,none⟩ x5
theorem Zsp (w:World) (p o:Nat) (x0 x1 x2 x3 x4 x5:Value) (k:Nat) (hk:k≠p):(Zmv w p o x0 x1 x2 x3 x4 x5).heap[k]?=w.heap[k]?:=by
 unfold Zmv
 rw[Below.heap_setCell _ _ _ _ hk,Below.heap_setCell _ _ _ _ hk,Below.heap_setCell _ _ _ _ hk,Below.heap_setCell _ _ _ _ hk,Below.heap_setCell _ _ _ _ hk,Below.heap_setCell _ _ _ _ hk]
theorem Zsq (w:World) (p o:Nat) (x0 x1 x2 x3 x4 x5:Value) (M:Nat->Prop) (hp:M p):ZaE M w (Zmv w p o x0 x1 x2 x3 x4 x5):=
 ((((((ZaE.refl M w).setCell (b:=p) _ (fun _=>hp) _).setCell (b:=p) _ (fun _=>hp) _).setCell (b:=p) _ (fun _=>hp) _).setCell (b:=p) _ (fun _=>hp) _).setCell (b:=p) _ (fun _=>hp) _).setCell (b:=p) _ (fun _=>hp) _
theorem SD.setNow {K:Nat->Prop} {w W:World} {pd p:Nat} {s:Sto} {d:Dk} {N T:Nat} {F M I:Nat->Prop} {L:Zhz} (hK:∀ k,K k->k<w.heap.size) (h1:Dsk F w pd d N T) (h2:ZeO M I w p pd L s) (h3:∀ k,F k->¬ K k) (h4:∀ k,M k->¬ K k) (h5:∀ k,I k->¬ K k) (h6:∀ k,F k->¬ M k) (h7:∀ k,F k->¬ I k)
 (hb:Below w.heap.size w W) (x:ZaX × Value × Value) (hx:SnR W x) (hi:ZmJ (fun k=>I k∨(w.heap.size<=k∧k<W.heap.size)) x):
 SD K (Zmv W p 5 (.int .i64 x.1.idx) (.int .i64 x.1.st.kind) x.2.1 (.bool x.1.st.shut) (.int .i64 x.1.st.eng) x.2.2) pd p { s with now:=x.1 } d N T∧
  ZaE (fun k=>¬ K k) w (Zmv W p 5 (.int .i64 x.1.idx) (.int .i64 x.1.st.kind) x.2.1 (.bool x.1.st.shut) (.int .i64 x.1.st.eng) x.2.2):=by
 obtain⟨W2,hW2⟩:∃ W2,W2=Zmv W p 5 (.int .i64 x.1.idx) (.int .i64 x.1.st.kind) x.2.1 (.bool x.1.st.shut) (.int .i64 x.1.st.eng) x.2.2:=⟨_,rfl⟩
 rw[<-hW2]
 have hWL:=h2.below hb
 have hk:∀ k,k≠p->W2.heap[k]?=W.heap[k]?:=fun k hk=>by rw[hW2];exact Zsp _ _ _ _ _ _ _ _ _ k hk
 have ho:ZaE M w W2:=(ZaE.ofBelow hb).trans (G:=M) (by rw[hW2];exact Zsq _ _ _ _ _ _ _ _ _ M h2.mh) (fun _ _ h=>h)
 have hsz:W2.heap.size=W.heap.size:=by rw[hW2];unfold Zmv;simp
 have hpl:p<w.heap.size:=h2.ltM p h2.mh
 have hhead:Bk 76 W2 p (stC pd { L with nl:=x.2.1,nt:=x.2.2 } { s with now:=x.1 }):=by
  rw[hW2]
  exact(((((hWL.head.set 5 _).set 6 _).set 7 _).set 8 _).set 9 _).set 10 _
 have hne:∀ {t:TypeId} {n sz g:Nat} {v:Value} {xs:List Value},W.ownsRow 0 t sz v n xs->v.ownBlock=some g->t≠76->g≠p:=fun hr hg ht=>by
  obtain⟨cs',hb⟩:=Zbv hr hg
  exact hb.ne hWL.head ht
 have hI:∀ k,(I k∨(w.heap.size<=k∧k<W.heap.size))->W2.heap[k]?=W.heap[k]?:=fun k hk'=>hk k (fun e=>by
  subst e
  rcases hk' with h | h
  ·exact h2.dis _ h2.mh h
  ·omega)
 refine SD.own (I':=fun k=>I k∨(w.heap.size<=k∧k<W.heap.size)) (M':=M) (L':={ L with nl:=x.2.1,nt:=x.2.2 }) hK h1 h3 h4 h5 h6 h7 ho ⟨hhead,Zah hWL.recs fun g hg=>hk g (hne hWL.recs hg (by decide)),Zah hWL.pcs fun g hg=>hk g (hne hWL.pcs hg (by decide)),Zah hWL.bases fun g hg=>hk g (hne hWL.bases hg (by decide)),hWL.bsEq,hx.keep hi hI,fun y hy=>(hWL.base y hy).keep (hWL.ibase y hy) (fun g hg=>hI g (.inl hg)),h2.mh,h2.mr,h2.mp,h2.mb,hi,fun y hy=>(h2.ibase y hy).mono (fun k hk=>.inl hk),fun k hm=>?_,fun k hm=>?_,fun k hm hi=>?_⟩ (fun _ hk=>.inl hk) (fun k hk=>?_)
 ·rw[hsz];exact Nat.lt_of_lt_of_le (h2.ltM k hm) hb.size
 ·rw[hsz]
  rcases hm with hm | hm
  ·exact Nat.lt_of_lt_of_le (h2.ltI k hm) hb.size
  ·exact hm.2
 ·rcases hi with hi | hi
  ·exact h2.dis k hm hi
  ·have:=h2.ltM k hm
   omega
 ·rcases hk with hk | hk
  ·exact .inl hk
  ·exact .inr hk.1
theorem Zof {l:List Rec} (h:ZaY l):(ZcU l).length<=20000:=by
 obtain⟨h1,h2,h3,h4⟩:=h
 have hr:=ZhD l [] (fun r hr=>by cases hr) h3
 unfold ZcU
 rw[List.length_append,List.length_append]
 have hd:ZaF (l.headD Zai):=by
  match l,h1 with
  | r::t,_=>exact h3 r List.mem_cons_self
 have q1:(Lib.uvarint (l.headD Zai).idx.toNat).length<=10:=ZfX (by have:=hd.2.2.1;omega)
 have q2:(Lib.uvarint l.length).length<=10:=ZfX (by omega)
 omega
theorem Zsr {s:Sto} {l:List Rec} (h:ZaY l) (hk:0<=s.now.st.kind∧s.now.st.kind<6) (hx:s.next<4611686018427387904):(ZcM s l).length<=30000:=by
 have h1:=Zof h
 have h2:=Zap (ZcU l)
 have h3:=Zap (Zbk 3 s.now.st.kind.toNat s.next.toNat)
 have h4:=Zff (v:=3) (k:=s.now.st.kind.toNat) (f:=s.next.toNat) (by decide) (by omega) (by omega)
 have q1:(Lib.uvarint (ZcU l).length).length<=10:=ZfX (by omega)
 have q2:(Lib.uvarint (Zbk 3 s.now.st.kind.toNat s.next.toNat).length).length<=10:=ZfX (by omega)
 unfold ZcM
 split
 ·rw[List.length_append]
  omega
 ·omega
theorem Zia {d:Dk} (h:OkD d) (first:Int) (h1:0<=first) (h2:first<=1000):I64 (Zbz d first):=by
 have hb:∀ n ∈ ZaR (Zan d) first,0<=n∧n<1048576:=fun n hn=>Zfc h n (List.mem_filter.1 hn).1
 unfold Zbz
 generalize ZaR (Zan d) first=l at hb ⊢
 by_cases h0:l.length=0
 ·rw[List.eq_nil_of_length_eq_zero h0]
  show I64 (first-2+2)
  exact⟨by omega,by omega⟩
 ·have e:l.getD (l.length-1) (first-2)=l[l.length-1]'(by omega):=by simp[List.getD,show l.length-1<l.length by omega]
  have:=hb _ (List.getElem_mem (show l.length-1<l.length by omega))
  rw[e]
  exact⟨by omega,by omega⟩
theorem RdR.keepK {w w':World} {v:Value} {l:List Rec} {K:Nat->Prop} (h:RdR w v l) (hv:l=[]∨∀ k,v.ownBlock=some k->K k) (ho:ZaE (fun k=>¬ K k) w w'):RdR w' v l:=by
 obtain⟨ao,cap,rfl,h2,h3,h4,h5,h6⟩:=h
 refine⟨ao,cap,rfl,h2,h3,h4,h5,?_⟩
 rcases hv with hv | hv
 ·exact .inl hv
 rcases h6 with h6 | ⟨b,off,rfl,h7⟩
 ·exact .inl h6
 ·exact .inr ⟨b,off,rfl,fun j hj=>(h7 j hj).keep (ho.block b (h7 j hj).lt (fun hn=>hn (hv b rfl)))⟩
theorem SD.takes {K:Nat->Prop} {w:World} {pd p:Nat} {s:Sto} {d:Dk} {N T:Nat} (h:SD K w pd p s d N T) (hK:∀ k,K k->k<w.heap.size) (hs:SnS s.now) (vl:Value) (l:List Rec) (hr:RdR w vl l) (hll:l.length<=1000000):
 ∃ la ln lc ta tn tc,(w.cell? ⟨p,5,none⟩=some (.int .i64 s.now.idx)∧w.cell? ⟨p,6,none⟩=some (.int .i64 s.now.st.kind)∧w.cell? ⟨p,7,none⟩=some (.slice la ln lc)∧w.cell? ⟨p,8,none⟩=some (.bool s.now.st.shut)∧w.cell? ⟨p,9,none⟩=some (.int .i64 s.now.st.eng)∧w.cell? ⟨p,10,none⟩=some (.slice ta tn tc))∧
  Calls Tryz.prog 15 #[.agg #[.int .i64 s.now.idx,.int .i64 s.now.st.kind,.slice la ln lc,.bool s.now.st.shut,.int .i64 s.now.st.eng,.slice ta tn tc],vl] w fun e w'=>
   ∃ xa xn xc ua un uc,e=.returned (.tuple #[.agg #[.int .i64 (ZaG s.now l).1.idx,.int .i64 (ZaG s.now l).1.st.kind,.slice xa xn xc,.bool (ZaG s.now l).1.st.shut,.int .i64 (ZaG s.now l).1.st.eng,.slice ua un uc],.int .i64 (ZaG s.now l).2])∧
    (w'.cell? ⟨p,5,none⟩=some (.int .i64 s.now.idx)∧w'.cell? ⟨p,6,none⟩=some (.int .i64 s.now.st.kind)∧w'.cell? ⟨p,7,none⟩=some (.slice la ln lc)∧w'.cell? ⟨p,8,none⟩=some (.bool s.now.st.shut)∧w'.cell? ⟨p,9,none⟩=some (.int .i64 s.now.st.eng)∧w'.cell? ⟨p,10,none⟩=some (.slice ta tn tc))∧(∀ j,w'.frozen? ⟨p,j,none⟩=false)∧
    SD K (Zmv w' p 5 (.int .i64 (ZaG s.now l).1.idx) (.int .i64 (ZaG s.now l).1.st.kind) (.slice xa xn xc) (.bool (ZaG s.now l).1.st.shut) (.int .i64 (ZaG s.now l).1.st.eng) (.slice ua un uc)) pd p { s with now:=(ZaG s.now l).1 } d N T∧
    ZaE (fun k=>¬ K k) w (Zmv w' p 5 (.int .i64 (ZaG s.now l).1.idx) (.int .i64 (ZaG s.now l).1.st.kind) (.slice xa xn xc) (.bool (ZaG s.now l).1.st.shut) (.int .i64 (ZaG s.now l).1.st.eng) (.slice ua un uc)):=by
 obtain⟨F,M,I,L,h1,h2,h3,h4,h5,h6,h7⟩:=h
 obtain⟨la,ln,lc,ta,tn,tc,e1,e2⟩:=h2.now.shape
 have e1':L.nl=.slice la ln lc:=e1
 have e2':L.nt=.slice ta tn tc:=e2
 have hcs:∀ W,Below w.heap.size w W->(W.cell? ⟨p,5,none⟩=some (.int .i64 s.now.idx)∧W.cell? ⟨p,6,none⟩=some (.int .i64 s.now.st.kind)∧W.cell? ⟨p,7,none⟩=some (.slice la ln lc)∧W.cell? ⟨p,8,none⟩=some (.bool s.now.st.shut)∧W.cell? ⟨p,9,none⟩=some (.int .i64 s.now.st.eng)∧W.cell? ⟨p,10,none⟩=some (.slice ta tn tc)):=fun W hW=>by
  obtain⟨-,-,-,-,-,⟨c5,c6,c7,c8,c9,c10⟩,-⟩:=(h2.below hW).cs
  rw[e1'] at c7
  rw[e2'] at c10
  exact⟨c5,c6,c7,c8,c9,c10⟩
 refine⟨la,ln,lc,ta,tn,tc,hcs w (Below.refl _ _),?_⟩
 have hsv:=h2.now.snV
 have hagg:snV (L.nx s)=.agg #[.int .i64 s.now.idx,.int .i64 s.now.st.kind,.slice la ln lc,.bool s.now.st.shut,.int .i64 s.now.st.eng,.slice ta tn tc]:=by
  unfold snV snC Zhz.nx
  dsimp only
  rw[e1',e2']
 rw[hagg] at hsv
 have hL:s.now.st.L.length<=1000:=by have:=ZpB hs.1;omega
 have hT:s.now.tab.length<=1000:=by have:=hs.2.few;omega
 refine(ZnD (P:=SnS) (fun S r hS hf=>hS.next hf) (fun S hS=>by have:=hS.2.few;omega) _ _ _ _ _ _ s.now vl l w hsv hr hL hT (by omega) hs).mono ?_
 rintro e w' ⟨vx,vu,rfl,r1,r2,r3,r4,r5,g1,g2,hb⟩
 obtain⟨xa,xc,hx,-⟩:=id r1
 obtain⟨ua,uc,hu⟩:=r4.shape
 have hS:SnR w' ((ZaG s.now l).1,vx,vu):=⟨r1,r4,r2,r3,r5⟩
 have hin:ZmJ (fun k=>I k∨(w.heap.size<=k∧k<w'.heap.size)) ((ZaG s.now l).1,vx,vu):=by
  refine⟨?_,?_⟩
  ·rcases r1.block with hb0 | ⟨hne,k,hk,hlt⟩
   ·exact .inl hb0
   ·rcases g1 with g1 | g1
    ·rcases h2.inow.1 with hi | hi
     ·obtain⟨a2,c2,h9,-⟩:=h2.now.l
      have h9':L.nl=.slice a2 s.now.st.L.length c2:=h9
      have hi':s.now.st.L=[]:=hi
      rw[hi'] at h9'
      rw[hx] at g1
      rw[e1'] at h9'
      injection g1 with _ g1 _
      injection h9' with _ h9' _
      exact .inl (List.eq_nil_of_length_eq_zero (by rw[g1,h9'];rfl))
     ·refine .inr fun g hg=>.inl (hi g ?_)
      show L.nl.ownBlock=some g
      rw[e1',<-g1]
      exact hg
    ·refine .inr fun g hg=>.inr ⟨g1 g hg,?_⟩
     rw[hg] at hk
     obtain rfl:=Option.some.inj hk
     exact hlt
  ·rcases g2 with ⟨rfl,g2⟩ | g2
   ·rcases h2.inow.2 with hi | hi
    ·exact .inl hi
    ·refine .inr fun g hg=>.inl (hi g ?_)
     show L.nt.ownBlock=some g
     rw[e2',<-g2]
     exact hg
   ·exact .inr fun g hg=>.inr (World.ownsRow.lt g2 g hg)
 have hfin:=SD.setNow hK h1 h2 h3 h4 h5 h6 h7 hb ((ZaG s.now l).1,vx,vu) hS hin
 dsimp only at hfin
 subst hx hu
 exact⟨xa,_,xc,ua,_,uc,rfl,hcs w' hb,fun j=>(h2.below hb).fz j,hfin.1,hfin.2⟩
end Go.Proofs.YtnahjngbneicaaaGreatDoor
