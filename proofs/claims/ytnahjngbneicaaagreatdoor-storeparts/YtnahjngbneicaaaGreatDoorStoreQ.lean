import Derived.Test.YtnahjngbneicaaaGreatDoorStoreP
import Derived.WalkMore
namespace Go.Proofs.YtnahjngbneicaaaGreatDoor
set_option maxRecDepth 100000
open Go.RowKit
theorem Zio (w:World) (ty:TypeId) (B:Nat) (v:Value) (l0:List Rec) (hown:Zbp w B v l0) (vx:Value) (l:List Rec) (hr:RdR w vx l)
 (hlim:l0.length+l.length<=10000000) (hbase:B<=w.heap.size):
 ∃ v' w',(Builtin.append_ #[29,29] ty #[v,vx]).run Tryz.prog w=.ok v' w'∧Zbp w' B v' (l0++l)∧Below B w w':=by
 obtain⟨i0,hi,hz0,hz1,hz2⟩:=info_parts Zfp
 obtain⟨ao,cap,rfl,hlc,hcm,hn0,_,hao⟩:=hr
 cases ao with
 | none=>
  have hc:=hn0 rfl
  subst hc
  have hl:l=[]:=List.eq_nil_of_length_eq_zero (by omega)
  subst hl
  have hrun:=run_append_owned_none (P:=Tryz.prog) w B 29 ty 62 i0 7 Tryz.underlying29 hi v l0.length (Zam l0) hown
  exact⟨v,w,hrun,by rw[List.append_nil];exact hown,Below.refl _ _⟩
 | some a=>
  obtain⟨v',w',hrun,ho,hg,_⟩:=run_append_own (P:=Tryz.prog) w B 29 ty 62 i0 _ 7 56 Tryz.underlying29 hi hz0 hz1 hz2 rfl (by decide) v l0.length (Zam l0) hown a l.length cap (Zam l)
   (Zbc l) (RdR.cells hao a rfl) (ZdS l) (by unfold maxLen;omega) (by omega) hbase
  refine⟨v',w',hrun,?_,?_⟩
  ·unfold Zbp
   rw[List.length_append,ZcQ]
   exact ho
  ·exact(Below.refl _ _).grown hg hbase (fun k hk=>(World.ownsRow.lt hown k hk).1)
theorem Zgc (w:World) {ops:Array Oper} {rest:List Oper} {o:Oper} {a:Act} {Q:Exit->Act->World->Prop} (hgd:o.guard=none) (s x:Operand)
 (ho:o.op=.call { callee:=.builtin .append,args:=#[s,x],argTypes:=#[29,29] })
 (B:Nat) (v:Value) (l0:List Rec) (hs:a.eval s=v) (hown:Zbp w B v l0) (vx:Value) (l:List Rec) (hx:a.eval x=vx) (hr:RdR w vx l)
 (hlim:l0.length+l.length<=10000000) (hbase:B<=w.heap.size)
 (h:∀ v' w',Zbp w' B v' (l0++l)->Below B w w'->wpList Tryz.prog ops Q rest (a.put o.dst v') w'):wpList Tryz.prog ops Q (o::rest) a w:=
 wpList_plain hgd fun _ hK=>by
  obtain⟨v',w',hrun,h2,h3⟩:=Zio w o.type B v l0 hown vx l hr hlim hbase
  unfold Oper.wp execOp
  simp only [ho,resolve,invoke,builtin,Sem.run_bind,Sem.run_pure,Result.andThen_ok,List.map_toArray,List.map_cons,List.map_nil,hs,hx,hrun]
  exact hK _ _ (h v' w' h2 h3)
theorem ZuX {L:List (List UInt8)} {q:Nat} (h:q<L.length):L.getD q [] ∈ L:=by
 rw[show L.getD q []=L[q] by simp[List.getD,h]]
 exact List.getElem_mem _
theorem ZwD {d:List UInt8} {l:List Rec} {n:Int} (h:DecB d l n):(n=0∧ZfS d=some l∧ZaY l)∨(n=3∧ZfS d=none):=by
 rcases h with ⟨h1,h2,h3⟩ | ⟨h1,h2,h3⟩
 ·exact .inl ⟨h1,by rw[<-h3];exact ZtC h2,h2⟩
 ·refine .inr ⟨h1,?_⟩
  unfold ZfS
  rw[if_neg fun hh=>h3 _ hh.1 hh.2]
theorem ZdV (first:Int) (d:List UInt8) (t:List (List UInt8)) (acc:List Rec):Zbl first (d::t) acc=match ZfS d with
 | none=>acc
 | some l=>if(l.headD Zai).idx=first+acc.length then Zbl first t (acc++l) else acc:=by
 rw[Zbl]
 cases ZfS d <;> rfl
def ZuY (L:List (List UInt8)) (kind:Int):Option (Nat × List Rec):=
 match L with
 | []=>none
 | H::B=>(Zeu H kind).map fun f=>(f,Zbl f B [])
theorem Zqd (b:List UInt8) (kind:Int):Zvv b kind=ZuY (Zal b).1 kind:=by
 unfold Zvv ZuY
 cases (Zal b).1 <;> rfl
def ZuZ (w:World) (o:Option (Nat × List Rec)) (e:Ending) (w':World):Prop:=
 ∃ (x:Int) (a:Option Addr) (n c:Nat),e=.returned (.tuple #[.int .i64 x,.slice a n c,.bool o.isSome])∧(∀ f l,o=some (f,l)->x=(f:Int)∧Zbp w' w.heap.size (.slice a n c) l)∧Below w.heap.size w w'
theorem Zbp.rdF {w:World} {B:Nat} {v:Value} {l:List Rec} (h:Zbp w B v l) (hf:∀ r ∈ l,ZaF r):RdR w v l:=h.rd fun r hr=>ZeB (hf r hr)
set_option maxHeartbeats 4000000 in
theorem Zkf (vb:Value) (b:List UInt8) (kind:Int) (w:World) (hr:Rd w vb b) (hb:b.length<=90000) (hk0:0<=kind) (hk1:kind<6):
 Calls Tryz.prog 77 #[vb,.int .i64 kind] w fun e w'=>ZuZ w (Zvv b kind) e w':=by
 have HWH:=ZZ (Zlq vb b w hr (by omega))
 obtain⟨hbd,hmany⟩:=ZgM b
 rw[Zqd]
 obtain⟨va,vc,rfl,-⟩:=hr
 generalize (Zal b).2.1=tk at *
 generalize (Zal b).1=L at *
 obtain⟨res,hres⟩:∃ res:Option (Nat × List Rec),res=ZuY L kind:=⟨_,rfl⟩
 rw[<-hres]
 have HRES:=ZZ hres
 clear hres
 have hml:(L.length:Int)<=100000:=by omega
 by_cases h0:L.length=0
 ·have e:L=[]:=List.eq_nil_of_length_eq_zero h0
  have HN:Hid (res=none):=ZZ (by rw[HRES.out,e];rfl)
  have h0':((L.length:Int) == 0)=true:=by rw[beq_iff_eq];omega
  clear h0 e hbd hmany HRES
  go_enter Tryz.func77,Tryz.ntmps77
  go_wp2
  go_step3
  go_wp2_with fail
  refine HWH.out.mono ?_
  rintro e W1 ⟨v1,rfl,ho1,hb1⟩
  have HB1:=ZZ hb1
  obtain⟨a1,c1,hv1,-⟩:=ho1.rd
  subst hv1
  clear ho1 hb1
  go_wp2
  try rw[Exit.noGoto_ret]
  go_ret3
  rw[HN.out]
  exact⟨0,_,_,_,rfl,(fun f l hh=>by cases hh),HB1.out⟩
 have hne:L≠[]:=fun e=>h0 (by rw[e];rfl)
 have h0':((L.length:Int) == 0)=false:=beq_eq_false_iff_ne.2 (by omega)
 have hpos:(0:Int)<(L.length:Int):=by omega
 have hhd:L.getD 0 []=L.headD []:=by cases L <;> rfl
 have HR2:Hid (res=(Zeu (L.headD []) kind).map fun(f:Nat)=>(f,Zbl (f:Int) L.tail [])):=ZZ (by
  rw[HRES.out]
  cases L with
  | nil=>exact absurd rfl hne
  | cons H B=>rfl)
 have hHl:(L.headD []).length<=90000:=by
  rw[<-hhd]
  have:=(hbd (L.getD 0 []) (by rw[show L.getD 0 []=L[0]'(by omega) by simp[List.getD,show 0<L.length by omega]];exact List.getElem_mem _)).2
  omega
 have HRH:=ZZ (fun vd W (h:Rd W vd (L.headD []))=>Zoo vd (L.headD []) kind W h hHl hk0 hk1)
 have HDE:=ZZ (fun(q:Nat) (hq:q<L.tail.length) vd W (h:Rd W vd (L.tail.getD q []))=>Zin vd (L.tail.getD q []) W h (by
  have hm:L.tail.getD q [] ∈ L:=List.mem_of_mem_tail (ZuX hq)
  have:=(hbd _ hm).2
  omega))
 have hmt:L.tail.length<=20000:=by rw[List.length_tail];omega
 clear hbd hmany HRES h0
 go_enter Tryz.func77,Tryz.ntmps77
 go_wp2
 go_step3
 go_wp2_with fail
 refine HWH.out.mono ?_
 rintro e W1 ⟨v1,rfl,ho1,hb1⟩
 have HB1:=ZZ hb1
 have HL1:=ZZ ho1.rd
 obtain⟨a1,c1,hv1,-⟩:=ho1.rd
 subst hv1
 clear ho1 hb1
 obtain⟨b0,o0,x0,rfl,hx0,hxr0⟩:=HL1.out.at 0 (by omega)
 obtain⟨am,cm,hrm,hcm⟩:=ZuN W1 _ L L.length c1 rfl HL1.out 1 (by omega)
 rw[List.drop_one] at hrm hcm
 rw[hhd] at hxr0
 have km:=hcm 1 rfl
 have HRM:=ZZ hrm
 have hc0:=hx0 W1 (Below.refl _ _)
 have HX0:=ZZ (hxr0 W1 (Below.refl _ _))
 obtain⟨a0,q0,hxe,-⟩:=hxr0 W1 (Below.refl _ _)
 subst hxe
 rw[Nat.add_zero] at hc0
 clear hrm hcm hx0 hxr0 hhd HL1 HWH hne
 generalize L.tail=B at *
 generalize L.headD []=H at *
 generalize hHl2:H.length=hl at *
 clear hHl2 hHl
 go_wp2_with fail
 refine(HRH.out _ _ HX0.out).mono ?_
 rintro e W2 ⟨x,rfl,hxf,hb2⟩
 have HB2:=ZZ (HB1.out.trans (hb2.mono HB1.out.size))
 have HRM2:=ZZ (HRM.out.below hb2 zL)
 have HXF:=ZZ hxf
 clear hxf hb2 hc0 HX0 HRM HRH HB1
 cases hh:Zeu H kind with
 | none=>
  have HN:Hid (res=none):=ZZ (by rw[HR2.out,hh];rfl)
  clear hh
  simp only [Option.isSome_none]
  go_wp2
  try rw[Exit.noGoto_ret]
  go_ret3
  rw[HN.out]
  exact⟨0,_,_,_,rfl,(fun f l h'=>by cases h'),HB2.out⟩
 | some f=>
  obtain rfl:=HXF.out f hh
  have hf62:f<4611686018427387904:=by
   unfold Zeu at hh
   split at hh
   ·rename_i v k f' hrd
    split at hh
    ·have:=(ZeA hrd).2.2.2.2
     rw[<-Option.some.inj hh]
     exact this
    ·cases hh
   ·cases hh
  have HN:Hid (res=some (f,Zbl f B [])):=ZZ (by rw[HR2.out,hh];rfl)
  simp only [Option.isSome_some]
  obtain⟨FF,hFF⟩:∃ FF:Int,FF=(f:Int):=⟨_,rfl⟩
  have HFF:=ZZ hFF
  have hF0:0<=FF:=by omega
  have hF1:FF<4611686018427387904:=by omega
  rw[<-hFF]
  clear hh HXF HR2 hFF hf62
  obtain⟨BL,hBL⟩:∃ BL,BL=B.length:=⟨_,rfl⟩
  rw[<-hBL] at km HRM2 hmt
  have HBL:=ZZ hBL
  clear hBL
  have hbi:(BL:Int)<=20000:=by omega
  have HDON:Hid (∀ (wr:World) (vl:Value) acc,Zbp wr w.heap.size vl acc->Zbl f B []=acc->Below w.heap.size w wr->ZuZ w res (.returned (.tuple #[.int .i64 FF,vl,.bool true])) wr):=ZZ (fun wr vl acc ho hk hbw=>by
   obtain⟨a,c,rfl⟩:=ho.shape
   refine⟨FF,a,_,c,by rw[HN.out];rfl,fun f' l' hfl=>?_,hbw⟩
   rw[HN.out] at hfl
   have hfl:=Option.some.inj hfl
   injection hfl with e1 e2
   rw[<-e1,<-e2,hk]
   exact⟨HFF.out,ho⟩)
  go_wp2
  go_step3
  go_wp2
  go_loopw[11,37] (fun vl vi wr=>∃ (q:Nat) (acc:List Rec) (a:Option Addr) (n c:Nat),vi=.int .i64 (q:Int)∧q<=BL∧vl=.slice a n c∧Hid (Zbp wr W2.heap.size (.slice a n c) acc)∧Hid (∀ r ∈ acc,ZaF r)∧Hid (acc.length<=256*q)∧Hid (Zbl f B []=Zbl f (B.drop q) acc)∧Hid (Below W2.heap.size W2 wr)) (fun _ vi _=>BL-(intOf vi).toNat)
  case atStart=>exact⟨0,[],none,0,0,rfl,Nat.zero_le _,rfl,ZZ (Zbp.nil _ _),ZZ (fun r hr=>by cases hr),ZZ (Nat.zero_le _),ZZ rfl,ZZ (Below.refl _ _)⟩
  case round=>
   obtain⟨q,acc,a,n,c,rfl,hq,rfl,HO,HFT,HLE,HBK,HBW⟩:=hrel
   have HBWW:Hid (Below w.heap.size w wr):=ZZ (HB2.out.trans (HBW.out.mono HB2.out.size))
   by_cases hlt:q<BL
   case neg=>
    have e:q=BL:=by omega
    have HF:=ZZ (HDON.out wr _ acc (HO.out.mono HB2.out.size) (by
     rw[HBK.out,e,HBL.out,List.drop_length]
     rfl) HBWW.out)
    clear e
    go_wp2
    try rw[Exit.noGoto_ret]
    go_ret3
    exact HF.out
   have hqB:q<B.length:=by rw[<-HBL.out];exact hlt
   have hqi:(q:Int)<(BL:Int):=by omega
   have hLn:=HLE.out
   obtain⟨bb,ob,xb,hab,hxb,hxrb⟩:=(HRM2.out.below HBW.out zL).at q hqB
   subst hab
   have cx:=hxb wr (Below.refl _ _)
   have hxr:=hxrb wr (Below.refl _ _)
   have HDC:=ZZ (HDE.out q hqB _ wr hxr)
   unfold Zdk at HDC
   have HST:Hid (Zbl f B []=Zbl f (B.getD q []::B.drop (q+1)) acc):=ZZ (by rw[HBK.out,drop_one hqB])
   rw[ZdV] at HST
   obtain⟨xa,xc,hxs,-⟩:=hxr
   subst hxs
   generalize B.getD q []=dq at *
   generalize hdl:dq.length=dl at *
   have HDL:=ZZ hdl
   clear hdl hxb hxrb HBK
   go_wp2_with fail
   refine HDC.out.mono ?_
   rintro e W3 ⟨v3,l3,n3,rfl,hr3,hd3,hb3⟩
   have HB3:Hid (Below W2.heap.size W2 W3):=ZZ (HBW.out.trans (hb3.mono HBW.out.size))
   have HBW3:Hid (Below w.heap.size w W3):=ZZ (HBWW.out.trans (hb3.mono HBWW.out.size))
   have HO3:=ZZ (HO.out.below hb3 zL)
   have HR3:=ZZ hr3
   rcases ZwD hd3 with ⟨rfl,hdb,hfb⟩ | ⟨rfl,hdb⟩
   case inr=>
    have HF:=ZZ (HDON.out W3 _ acc (HO3.out.mono HB2.out.size) (by rw[HST.out,hdb]) HBW3.out)
    clear hdb hd3 hr3 hb3 HST HDC cx
    go_wp2
    try rw[Exit.noGoto_ret]
    go_ret3
    exact HF.out
   have hl31:1<=l3.length:=hfb.1
   have hl32:l3.length<=256:=hfb.2.1
   obtain⟨ra,rc,hrv,-,-,-,-,hrc⟩:=id hr3
   subst hrv
   rcases hrc with hr0 | ⟨rb,ro,rfl,hcell⟩
   ·rw[hr0] at hl31;simp at hl31
   have hix:l3.getD 0 Zai=l3.headD Zai:=by cases l3 <;> rfl
   have ci:=(hcell 0 (by omega)).1
   rw[hix,Nat.zero_mul,Nat.add_zero] at ci
   rw[hdb] at HST
   dsimp only at HST
   have hal:(acc.length:Int)<=6000000:=by omega
   have HNL:Hid (n=acc.length):=ZZ (by
    obtain⟨a9,c9,e9⟩:=HO3.out.shape
    injection e9 with _ e9 _)
   have hnl:n<=6000000:=by rw[HNL.out];omega
   have hni:(n:Int)<=6000000:=by omega
   have hw9:IntKind.i64.wrap (FF+(n:Int))=FF+n:=by rw[IntKind.wrap_i64];omega
   have hli3:(0:Int)<(l3.length:Int):=by omega
   by_cases hix2:(l3.headD Zai).idx=FF+n
   case neg=>
    have HF:=ZZ (HDON.out W3 _ acc (HO3.out.mono HB2.out.size) (by rw[HST.out,if_neg (by rw[<-HFF.out,<-HNL.out];exact hix2)]) HBW3.out)
    have hxb2:((l3.headD Zai).idx != FF+(n:Int))=true:=by rw[bne_iff_ne];exact hix2
    generalize (l3.headD Zai).idx=ix at *
    clear hdb hd3 hr3 hb3 HST HDC cx hcell hix hfb hix2
    go_wp2
    try rw[Exit.noGoto_ret]
    go_ret3
    exact HF.out
   have hxb2:((l3.headD Zai).idx != FF+(n:Int))=false:=by rw[hix2];simp
   have HST2:Hid (Zbl f B []=Zbl f (B.drop (q+1)) (acc++l3)):=ZZ (by rw[HST.out,if_pos (by rw[<-HFF.out,<-HNL.out];exact hix2)])
   have HF3:Hid (∀ r ∈ acc++l3,ZaF r):=ZZ (fun r hr=>by
    rcases List.mem_append.1 hr with hr | hr
    ·exact HFT.out r hr
    ·exact hfb.2.2.1 r hr)
   have HLL:Hid ((acc++l3).length<=256*(q+1)):=ZZ (by rw[List.length_append];omega)
   have HLM:Hid (acc.length+l3.length<=10000000):=ZZ (by omega)
   have HSZ3:Hid (W2.heap.size<=W3.heap.size):=ZZ HB3.out.size
   generalize (l3.headD Zai).idx=ix at *
   clear hdb hd3 hr3 hb3 HST HDC cx hcell hix hfb hix2
   go_wp2_with(at_builtin;refine Zgc _ rfl _ _ rfl W2.heap.size _ acc rfl HO3.out _ l3 rfl HR3.out (by have:=HLM.out;omega) HSZ3.out ?_)
   intro v4 W4 ho4 hb4
   have HO4:=ZZ ho4
   obtain⟨y1,y2,y3,hy⟩:∃ a n c,v4=Value.slice a n c:=by
    obtain⟨a,c,hh⟩:=ho4.shape
    exact⟨a,_,c,hh⟩
   subst hy
   have HB4:Hid (Below W2.heap.size W2 W4):=ZZ (HB3.out.trans hb4)
   clear ho4 hb4
   go_wp2
   go_roundw
   case rel=>exact⟨q+1,acc++l3,y1,y2,y3,by go_num,by omega,rfl,HO4,HF3,HLL,HST2,HB4⟩
   case measure=>simp[intOf];omega
end Go.Proofs.YtnahjngbneicaaaGreatDoor
