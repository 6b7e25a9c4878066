import Derived.Test.YtnahjngbneicaaaGreatDoorPack10
import Derived.Test.YtnahjngbneicaaaGreatDoorSnapDecG
import Derived.Test.YtnahjngbneicaaaGreatDoorBlockDec
namespace Go.Proofs.YtnahjngbneicaaaGreatDoor
set_option maxRecDepth 100000
open Go.RowKit
theorem Zic {a b:List UInt8} (ha:a.length<=1048576) (hb:b.length<=1048576) (h:Zad a=Zad b):a=b:=by
 have h1:=Zdf [a] (by simpa using ha)
 have h2:=Zdf [b] (by simpa using hb)
 have e1:Zag [a]=Zad a:=by simp[Zag]
 have e2:Zag [b]=Zad b:=by simp[Zag]
 rw[e1,h] at h1
 rw[e2] at h2
 have:=congrArg Prod.fst (h1.symm.trans h2)
 simpa using this
theorem ZwC {H:List UInt8} (hH:H.length<=1048576) {kind:Int} (hk0:0<=kind) (hk1:kind<6):
 decide (Zad H=Zik 3 kind (Zdh (Zad H)).1.first)=(Zeu H kind).isSome∧(∀ f,Zeu H kind=some f->(Zdh (Zad H)).1.first=(f:Int))∧0<=(Zdh (Zad H)).1.first∧(Zdh (Zad H)).1.first<4611686018427387904:=by
 have hw:=Zdf [H] (by simpa using hH)
 have e1:Zag [H]=Zad H:=by simp[Zag]
 rw[e1] at hw
 have hrec:Zdh (Zad H)=match Zcb H with
  | .error _=>(Zgu,0,false)
  | .ok (v,k,f)=>(⟨k,f,(ZcL v f [] [] 16).1⟩,(Zag ([H].take (1+(ZcL v f [] [] 16).2.1))).length,true):=by
  unfold Zdh ZvK
  rw[hw]
  rw[if_neg (by simp)]
  rfl
 have hL:∀ f:Int,0<=f->f<4611686018427387904->Zik 3 kind f=Zad (Zbk 3 kind.toNat f.toNat):=fun f h0 h1=>by
  unfold Zik
  rw[if_pos (by decide),if_pos ⟨hk0,hk1,h0,h1⟩]
  rfl
 have hlen:∀ f:Int,0<=f->f<4611686018427387904->(Zbk 3 kind.toNat f.toNat).length<=1048576:=fun f h0 h1=>by
  have:=Zff (v:=3) (k:=kind.toNat) (f:=f.toNat) (by decide) (by omega) (by omega)
  omega
 cases hr:Zcb H with
 | error x=>
  rw[hr] at hrec
  have hf:(Zdh (Zad H)).1.first=0:=by rw[hrec];rfl
  have hkn:Zeu H kind=none:=by unfold Zeu;rw[hr]
  rw[hf,hkn]
  refine⟨?_,(fun f hh=>by cases hh),by decide,by decide⟩
  rw[hL 0 (by decide) (by decide)]
  refine decide_eq_false fun hh=>?_
  have:=Zic hH (hlen 0 (by decide) (by decide)) hh
  rw[this,Zln (by decide) (by decide) (by omega) (by decide)] at hr
  cases hr
 | ok t=>
  obtain⟨v,k,f⟩:=t
  obtain⟨hs,hv1,hv3,hk6,hf62⟩:=ZeA hr
  rw[hr] at hrec
  have hf:(Zdh (Zad H)).1.first=(f:Int):=by rw[hrec]
  rw[hf,hL f (by omega) (by omega)]
  have hkn:Zeu H kind=if v=3∧(k:Int)=kind then some f else none:=by unfold Zeu;rw[hr]
  have e2:((f:Int)).toNat=f:=by omega
  rw[e2]
  have hl2:=hlen f (by omega) (by omega)
  rw[e2] at hl2
  by_cases hc:v=3∧(k:Int)=kind
  ·rw[hkn,if_pos hc]
   refine⟨?_,fun f' hf'=>by rw[Option.some.inj hf'],by omega,by omega⟩
   have e3:kind.toNat=k:=by omega
   rw[hs,hc.1,e3]
   exact decide_eq_true rfl
  ·rw[hkn,if_neg hc]
   refine⟨decide_eq_false fun hh=>?_,(fun f' hf'=>by cases hf'),by omega,by omega⟩
   have h3:=Zic hH hl2 hh
   have h4:=Zln (v:=3) (k:=kind.toNat) (f:=f) (by decide) (by decide) (by omega) hf62
   rw[<-h3,hr] at h4
   injection h4 with h4
   injection h4 with h5 h6
   injection h6 with h6 h7
   exact hc ⟨h5,by omega⟩
set_option maxHeartbeats 2000000 in
theorem Zoo (vd:Value) (H:List UInt8) (kind:Int) (w:World) (hr:Rd w vd H) (hH:H.length<=90000) (hk0:0<=kind) (hk1:kind<6):
 Calls Tryz.prog 119 #[vd,.int .i64 kind] w fun e w'=>∃ x:Int,e=.returned (.tuple #[.int .i64 x,.bool (Zeu H kind).isSome])∧(∀ f,Zeu H kind=some f->x=(f:Int))∧Below w.heap.size w w':=by
 obtain⟨q1,q2,q3,q4⟩:=ZwC (H:=H) (by omega) hk0 hk1
 have HEN:=ZZ (ZhA vd H w hr)
 rw[Zmr (by omega)] at HEN
 have hw:=Zdf [H] (by simp;omega)
 have e1:Zag [H]=Zad H:=by simp[Zag]
 rw[e1] at hw
 have hfl:=Zap H
 have hu:(Lib.uvarint H.length).length<=10:=ZfX (by omega)
 have HRC:=ZZ (fun v1 W (h:Rd W v1 (Zad H))=>ZkF v1 (Zad H) W h (by omega) (by rw[hw];rfl))
 obtain⟨fs,hfs⟩:∃ fs,fs=(Zdh (Zad H)).1.first:=⟨_,rfl⟩
 have HHD:=ZZ (fun W=>Zoc 3 kind fs W)
 unfold Zdt at HRC
 unfold ZqS at HHD
 rw[<-hfs] at q1 HRC
 have HQ:Hid (∀ f,Zeu H kind=some f->fs=(f:Int)):=ZZ (fun f hf=>by rw[hfs];exact q2 f hf)
 have HEQ:=ZZ (fun va vb W (ha:Rd W va (Zad H)) (hb:Rd W vb (Zik 3 kind fs))=>Zkc va vb _ _ W ha hb)
 rw[q1] at HEQ
 generalize (Zeu H kind).isSome=ans at *
 generalize (Zdh (Zad H)).1.kind=rk at *
 generalize ((Zdh (Zad H)).2.1:Int)=rn at *
 generalize (Zdh (Zad H)).2.2=ro at *
 generalize (Zdh (Zad H)).1.recs=rr at *
 generalize Zik 3 kind fs=HL at *
 generalize ZbP 3 kind fs=he at *
 generalize Zad H=FH at *
 obtain⟨va,vc,rfl,-⟩:=hr
 clear q1 q2 q3 q4 hw e1 hfl hu hfs hk0 hk1
 go_enter Tryz.func119,Tryz.ntmps119
 go_wp2_with fail
 refine HEN.out.mono ?_
 rintro e W1 ⟨v1,rfl,ho1,hb1⟩
 have HR1:=ZZ ho1.rd
 have HB1:=ZZ hb1
 clear ho1 hb1
 go_wp2_with fail
 refine(HRC.out _ _ HR1.out).mono ?_
 rintro e W2 ⟨vl,rfl,hrl,hb2⟩
 obtain⟨la,lc,rfl,-⟩:=hrl
 have HB12:=ZZ hb2
 have HB2:=ZZ (HB1.out.trans (hb2.mono HB1.out.size))
 obtain⟨W3,hW3⟩:∃ W3,W3=W2.alloc (.cells #[.int .i64 rk,.int .i64 fs,.slice la rr.length lc] 217):=⟨_,rfl⟩
 have HX:Hid (Bsg W3 W2.heap.size #[.int .i64 rk,.int .i64 fs,.slice la rr.length lc]):=ZZ (by rw[hW3];exact heap_alloc_new W2 _)
 have HB23:Hid (Below W2.heap.size W2 W3):=ZZ (by rw[hW3];exact ZcW _ _)
 have HB3:=ZZ (HB2.out.trans (HB23.out.mono HB2.out.size))
 have HR3:=ZZ ((HR1.out.below HB12.out zL).below HB23.out zL)
 have HSX:Hid (∀ W,Below W3.heap.size W3 W->W.cell? ⟨W2.heap.size,1,none⟩=some (.int .i64 fs)):=ZZ (fun W hW=>((HX.out.below hW zL).cell 1).1)
 have c1:=HSX.out W3 (Below.refl _ _)
 clear hb2
 go_upto_region 3 with fail
 rw[<-hW3]
 clear hW3
 go_wp2_with fail
 refine(HHD.out W3).mono ?_
 rintro e W4 ⟨v4,rfl,ho4,hb4⟩
 have HB34:=ZZ hb4
 have HB4:=ZZ (HB3.out.trans (hb4.mono HB3.out.size))
 have HR4:=ZZ ho4.rd
 have HR34:=ZZ (HR3.out.below hb4 zL)
 have HSD:Hid (Below W3.heap.size W3 W4.drew):=ZZ hb4.drew
 have HBD:Hid (Below W4.heap.size W4 W4.drew):=ZZ (Below.refl _ _).drew
 have HEQ4:=ZZ (HEQ.out _ _ W4.drew (HR34.out.below HBD.out zL) (HR4.out.below HBD.out zL))
 clear ho4 hb4 c1
 go_upto_region 4 with fail
 go_region_held(fun W=>W.cell? ⟨W2.heap.size,1,none⟩=some (.int .i64 fs))
  (first | (with_reducible exact HSX.out _ HSD.out))
  (first | (go_at_call 163;refine HEQ4.out.mono ?_;rintro e W5 ⟨rfl,rfl⟩))
 all_goals
  go_wp2
  go_ret2
  exact⟨fs,rfl,HQ.out,HB4.out.drew⟩
end Go.Proofs.YtnahjngbneicaaaGreatDoor
