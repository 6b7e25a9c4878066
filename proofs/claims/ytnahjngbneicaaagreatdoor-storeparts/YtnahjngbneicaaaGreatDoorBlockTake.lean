import Derived.Test.YtnahjngbneicaaaGreatDoorPack5
import Derived.Test.YtnahjngbneicaaaGreatDoorPack10
import Derived.Test.YtnahjngbneicaaaGreatDoorPack8
import Derived.Deep.QuietTactic
import Derived.BigQuiet
namespace Go.Proofs.YtnahjngbneicaaaGreatDoor
set_option maxRecDepth 100000
open Go.RowKit
def ZcF (m:List UInt8):Rec × Int × List UInt8 × Bool:=
 let m1:=behind (Zab m).2 m
 let m2:=behind (Zaf m1).2 m1
 let m3:=behind (Zay m2).2 m2
 (⟨0,(Zab m).1,0,(Zay m2).1,zag (Zaf m3).1⟩,zag (Zaf m1).1,behind (Zaf m3).2 m3,decide ((Zaf m3).2≠0))
theorem ZgR (m:List UInt8):∃ m1 m2 m3,m1=behind (Zab m).2 m∧m2=behind (Zaf m1).2 m1∧m3=behind (Zay m2).2 m2∧ZcF m=(⟨0,(Zab m).1,0,(Zay m2).1,zag (Zaf m3).1⟩,zag (Zaf m1).1,behind (Zaf m3).2 m3,decide ((Zaf m3).2≠0)):=
 ⟨_,_,_,rfl,rfl,rfl,rfl⟩
theorem Zom:(Zay []).2=0:=by
 have:=ZqE []
 simpa using this
theorem ZeE {d:Nat} {l:List UInt8} (h:behind d l≠[]):d≠0:=fun e=>h (by rw[e];rfl)
theorem Zlu {l:List UInt8} (h:(Zaf l).2≠0):l≠[]:=fun e=>h (by rw[e,ZdE])
theorem ZsC {l:List UInt8} (h:(Zab l).2≠0):l≠[]:=fun e=>h (by rw[e,Zfh])
theorem ZsD {l:List UInt8} (h:(Zay l).2≠0):l≠[]:=fun e=>h (by rw[e];exact Zom)
theorem Zkd {l:List UInt8} (h:(Zab l).2≠0):l=Lib.uvarint (Zab l).1++behind (Zab l).2 l:=by
 rw[ZaW h,Zbn h,List.take_append_drop]
theorem Zon {l:List UInt8} (h:(Zaf l).2≠0):l=Lib.uvarint (Zaf l).1++behind (Zaf l).2 l:=by
 rw[ZaW h,ZkQ h,List.take_append_drop]
theorem ZuT {l:List UInt8} (h:(Zay l).2≠0):l=ZaN (Zay l).1++behind (Zay l).2 l:=by
 rw[ZaW h,(ZiN h).2,List.take_append_drop]
theorem ZuU {m:List UInt8} (h:(ZcF m).2.2.2=false):(ZcF m).2.2.1=[]:=by
 unfold ZcF at h ⊢
 simp only [decide_eq_false_iff_not,Decidable.not_not] at h ⊢
 rw[h]
 rfl
theorem take_nil:(ZcF []).2.2.2=false:=by
 obtain⟨m1,m2,m3,h1,h2,h3,he⟩:=ZgR []
 have e1:m1=[]:=by rw[h1,Zfh];rfl
 have e2:m2=[]:=by rw[h2,e1,ZdE];rfl
 have e3:m3=[]:=by rw[h3,e2,Zom];rfl
 rw[he,e3]
 show decide ((Zaf []).2≠0)=false
 rw[ZdE]
 rfl
theorem ZsE {m:List UInt8} (h:(ZcF m).2.2.2=true):
 m=Lib.uvarint (ZcF m).1.proc.toNat++(Lib.uvarint (Lib.zigzag (ZcF m).2.1)++(ZaN (ZcF m).1.op++(Lib.uvarint (Lib.zigzag (ZcF m).1.resp)++(ZcF m).2.2.1))):=by
 obtain⟨m1,m2,m3,h1,h2,h3,he⟩:=ZgR m
 rw[he] at h ⊢
 simp only [decide_eq_true_eq] at h
 have n3:(Zay m2).2≠0:=ZeE (l:=m2) (by rw[<-h3];exact Zlu h)
 have n2:(Zaf m1).2≠0:=ZeE (l:=m1) (by rw[<-h2];exact ZsD n3)
 have n1:(Zab m).2≠0:=ZeE (l:=m) (by rw[<-h1];exact Zlu n2)
 have e4:=Zon h
 have e3:=ZuT n3
 have e2:=Zon n2
 have e1:=Zkd n1
 rw[<-h1] at e1
 rw[<-h2] at e2
 rw[<-h3] at e3
 show m=Lib.uvarint ((Zab m).1:Int).toNat++(Lib.uvarint (Lib.zigzag (zag (Zaf m1).1))++(ZaN (Zay m2).1++(Lib.uvarint (Lib.zigzag (zag (Zaf m3).1))++behind (Zaf m3).2 m3)))
 rw[Int.toNat_natCast,Zed,Zed]
 exact e1.trans (congrArg (Lib.uvarint (Zab m).1++·) (e2.trans (congrArg (Lib.uvarint (Zaf m1).1++·) (e3.trans (congrArg (ZaN (Zay m2).1++·) e4)))))
theorem ZuV (m:List UInt8):I64 (ZcF m).1.proc∧I64 (ZcF m).2.1∧Zxo (ZcF m).1.op∧I64 (ZcF m).1.resp∧(ZcF m).1.idx=0∧(ZcF m).1.seq=0∧0<=(ZcF m).1.proc:=by
 have hz:∀ l:List UInt8,I64 (zag (Zaf l).1):=fun l=>ZoM (ZlF l)
 have hd:(Zab m).1<4611686018427387904:=by
  rcases Zau m with e | e
  ·rw[e];decide
  ·exact e.1
 have ho:∀ l:List UInt8,Zxo (Zay l).1:=fun l=>by
  by_cases h:(Zay l).2=0
  ·rw[Zri h]
   exact⟨⟨by decide,by decide⟩,⟨by decide,by decide⟩,⟨by decide,by decide⟩⟩
  ·have hf:=(ZiN h).1
   have hi:=Zdc hf
   obtain⟨hc0,hc1,_⟩:=hf
   refine⟨?_,hi.1,hi.2⟩
   generalize (Zay l).1.code=c at *
   exact⟨by omega,by omega⟩
 obtain⟨m1,m2,m3,h1,h2,h3,he⟩:=ZgR m
 have hp:I64 ((Zab m).1:Int):=⟨by omega,by omega⟩
 have hp0:(0:Int)<=((Zab m).1:Int):=by omega
 rw[he]
 exact⟨hp,hz m1,ho m2,hz m3,rfl,rfl,hp0⟩
theorem ZxX (m:List UInt8):(ZcF m).2.2.1.length<=m.length:=by
 obtain⟨m1,m2,m3,h1,h2,h3,he⟩:=ZgR m
 rw[he]
 have l1:=ZbF (Zab m).2 m
 have l2:=ZbF (Zaf m1).2 m1
 have l3:=ZbF (Zay m2).2 m2
 have l4:=ZbF (Zaf m3).2 m3
 rw[<-h1] at l1
 rw[<-h2] at l2
 rw[<-h3] at l3
 exact Nat.le_trans l4 (Nat.le_trans l3 (Nat.le_trans l2 l1))
theorem ZwB {pre:List Rec} (hl:∀ r ∈ pre,ZaF r) {r:Rec} (hr:ZaF r) (t:List UInt8):
 ZcF (Zbt pre r++t)=(⟨0,r.proc,0,r.op,r.resp⟩,r.seq-Zar pre r.proc,t,true):=by
 have hd:=Zgt hl hr
 have hresp:=Zdq hr
 obtain⟨ho,_,_,hs0,hs1,hp0,hp1,_⟩:=id hr
 have E:Zbt pre r++t=Lib.uvarint r.proc.toNat++(Lib.uvarint (Lib.zigzag (r.seq-Zar pre r.proc))++(ZaN r.op++(Lib.uvarint (Lib.zigzag r.resp)++t))):=by
  unfold Zbt
  simp only [List.append_assoc]
 rw[E]
 have n3:(ZaN r.op).length≠0:=by
  unfold ZaN
  have:=Zhd r.op.code.toNat
  rw[List.length_append]
  omega
 have d1:=ZaL r.proc.toNat (Lib.uvarint (Lib.zigzag (r.seq-Zar pre r.proc))++(ZaN r.op++(Lib.uvarint (Lib.zigzag r.resp)++t))) (by omega)
 have d2:=Zbx (Lib.zigzag (r.seq-Zar pre r.proc)) (ZaN r.op++(Lib.uvarint (Lib.zigzag r.resp)++t)) (ZeS hd)
 have d3:=ZmS r.op ho (Lib.uvarint (Lib.zigzag r.resp)++t)
 have d4:=Zbx (Lib.zigzag r.resp) t (ZeS hresp)
 unfold ZcF
 simp only [d1,ZaW (Zhd _),List.drop_left,d2,d3,ZaW n3,d4,Zdm _ hd.1 hd.2,Zdm _ hresp.1 hresp.2]
 have hpn:((r.proc.toNat:Nat):Int)=r.proc:=by omega
 rw[hpn,decide_eq_true (Zhd _)]
theorem ZeF {w:World} {ao:Option Addr} {cap:Nat} {l:List UInt8} (hr:Rd w (.slice ao l.length cap) l) (d:Nat) (hd:d<=l.length):
 ∃ a1 c1,(∀ W,(Instr.sliceAt 53 (.slice ao l.length cap) (some (.int .i64 (d:Int))) none none).run Tryz.prog W=.ok (.slice a1 (l.drop d).length c1) W)∧Rd w (.slice a1 (l.drop d).length c1) (l.drop d):=by
 obtain⟨ao',cap',hv,hlc,r⟩:=id hr
 simp only [Value.slice.injEq] at hv
 obtain⟨rfl,_,rfl⟩:=hv
 have h2:=hr.mid d l.length cap hd zL hlc zL
 rw[List.take_of_length_le (by simp)] at h2
 obtain⟨a1,c1,e1,-⟩:=id h2
 rw[e1] at h2
 refine⟨a1,c1,fun W=>?_,h2⟩
 rw[run_sliceAt_slice W 53 _ _ _ _ ZaA,run_slice_l W 53 ao l.length cap ZaA .i64 (d:Int) (by omega) (by omega),ZbG,Zev]
 show Result.ok (sliced ao ((d:Int)).toNat l.length cap 1) W=_
 rw[Int.toNat_natCast,e1]
end Go.Proofs.YtnahjngbneicaaaGreatDoor
