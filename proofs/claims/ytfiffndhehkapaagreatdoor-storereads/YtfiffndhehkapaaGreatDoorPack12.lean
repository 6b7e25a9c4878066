import Derived.Test.YtfiffndhehkapaaGreatDoorPack11
import Derived.Test.YtfiffndhehkapaaGreatDoorPack4
import Derived.Test.YtfiffndhehkapaaGreatDoorPack8
import Derived.Deep.RegionHeld
import Derived.Test.YtfiffndhehkapaaGreatDoorPack9
import Derived.Test.YtfiffndhehkapaaGreatDoorPack5
import Derived.Deep.QuietTactic
import Derived.BigQuiet
import Derived.Laws.OwnMore
namespace Go.Proofs.YtfiffndhehkapaaGreatDoor
set_option maxHeartbeats 4000000
set_option maxRecDepth 100000
open Go.RowKit
def ZuD (w:World) (b:List UInt8) (e:Ending) (w':World):Prop:=
 ∃ (vl vt:Value) (S:St) (t:List Ent) (ok:Bool),e=.returned (.tuple #[.agg #[.int .i64 S.kind,vl,.bool S.shut,.int .i64 S.eng],vt,.bool ok])∧RdI w' vl S.L∧I64 S.kind∧I64 S.eng∧RdE w' vt t∧(∀ k,vl.ownBlock=some k->w.heap.size<=k)∧(∀ k,vt.ownBlock=some k->w.heap.size<=k)∧
  (ok=false->(ZbQ b).2=3)∧(ok=true->∃ er,ZbQ b=(⟨0,S,t⟩,er)∧(er=0∨(er=1∧S=ZfF)))∧Below w.heap.size w w'
theorem ZuD.none {w w':World} {b:List UInt8} (h:(ZbQ b).2=3) (hb:Below w.heap.size w w'):ZuD w b (.returned (.tuple #[.agg #[.int .i64 0,.slice none 0 0,.bool false,.int .i64 0],.slice none 0 0,.bool false])) w':=
 ⟨_,_,ZfF,[],false,rfl,RdI.nil _,(Zai (by decide) (by decide):I64 0),(Zai (by decide) (by decide):I64 0),RdE.nil _,(fun k hk=>by simp[Value.ownBlock] at hk),(fun k hk=>by simp[Value.ownBlock] at hk),(fun _=>h),(fun h=>by cases h),hb⟩
theorem ZyN (ao:Option Addr) (l:List UInt8) (cap:Nat) (hlc:l.length<=cap) (j:Nat) (hj:j<=l.length):
 ∃ xa xn xc,(∀ W,(Instr.sliceAt 53 (.slice ao l.length cap) none (some (.int .i64 (j:Int))) (some (.int .i64 (j:Int)))).run Tryz.prog W=.ok (.slice xa xn xc) W)∧∀ W,Rd W (.slice ao l.length cap) l->Rd W (.slice xa xn xc) (l.take j):=by
 have hsl:∃ xa xn xc,sliced ao 0 j j 1=.slice xa xn xc:=by
  unfold sliced
  exact⟨_,_,_,rfl⟩
 obtain⟨xa,xn,xc,hsl⟩:=hsl
 refine⟨xa,xn,xc,fun W=>?_,fun W h=>?_⟩
 ·rw[run_sliceAt_slice W 53 _ _ _ _ ZaE,run_slice_hm W 53 ao l.length cap ZaE .i64 .i64 (j:Int) (j:Int) (by omega) (by omega) (by omega),ZbS,Zfg]
  simp only [Int.toNat_natCast]
  rw[<-hsl]
  rfl
 ·rw[<-hsl]
  have h2:=h.mid 0 j j (Nat.zero_le _) hj zL (by omega)
  rw[List.drop_zero,Nat.sub_zero] at h2
  exact h2
def four (w:World) (R:Nat) (x0 x1 x2 x3:Value):World:=(((w.setCell ⟨R,0,none⟩ x0).setCell ⟨R,1,none⟩ x1).setCell ⟨R,2,none⟩ x2).setCell ⟨R,3,none⟩ x3
theorem Zgk {C:Nat} {w0 w:World} (h:Below C w0 w) (R:Nat) (hR:C<=R) (x0 x1 x2 x3:Value):Below C w0 ((((w.setCell ⟨R,0,none⟩ x0).setCell ⟨R,1,none⟩ x1).setCell ⟨R,2,none⟩ x2).setCell ⟨R,3,none⟩ x3):=
 (((h.setCell hR _).setCell hR _).setCell hR _).setCell hR _
theorem ZyO (w:World) (R:Nat) (x0 x1 x2 x3:Value):But R R w ((((w.setCell ⟨R,0,none⟩ x0).setCell ⟨R,1,none⟩ x1).setCell ⟨R,2,none⟩ x2).setCell ⟨R,3,none⟩ x3):=
 ((((But.refl R R w).set _ _ (.inl rfl) _).set _ _ (.inl rfl) _).set _ _ (.inl rfl) _).set _ _ (.inl rfl) _
theorem Zog (v:Value) (b:List UInt8) (w:World) (hr:Rd w v b) (hlim:b.length<=100000):
 Calls Tryz.prog 118 #[v] w fun e w'=>ZuD w b e w':=by
 obtain⟨W0,hW0⟩:∃ W0,W0=((w.alloc (.cells #[.int .i64 0,.slice none 0 0,.bool false,.int .i64 0] 38)).alloc (.cells #[.int .i64 0] 3)).alloc (.cells #[.pointer (some ⟨w.heap.size+1,0,none⟩)] 209):=⟨_,rfl⟩
 have h3:=Zle w (.cells #[.int .i64 0,.slice none 0 0,.bool false,.int .i64 0] 38) (.cells #[.int .i64 0] 3) (.cells #[.pointer (some ⟨w.heap.size+1,0,none⟩)] 209)
 rw[<-hW0] at h3
 obtain⟨hA,hB,hC⟩:=h3
 have HB0:Hid (Below w.heap.size w W0):=ZZ (by rw[hW0];exact(((Below.refl _ _).alloc zL _).alloc (by simp) _).alloc (by simp;omega) _)
 have hEA:Bx W0 w.heap.size #[.int .i64 0,.slice none 0 0,.bool false,.int .i64 0]:=hA
 have HGN:=ZZ (Zdi (w.heap.size+1+1) [(w.heap.size+1,0)] v b W0 (hr.below HB0.out zL) (fun p hp=>by
  rw[List.mem_singleton.1 hp]
  exact⟨⟨⟨0,cell_of_row W0 (w.heap.size+1) 0 _ _ _ hB⟩,frozen_of_row W0 (w.heap.size+1) 0 _ _ hB⟩,by simp⟩) (by simp) hC 1 rfl)
 have HSC:Hid (∀ n:Nat,(W0.setCell ⟨w.heap.size+1,0,none⟩ (.int .i64 (n:Int))).cell? ⟨w.heap.size+1,0,none⟩=some (.int .i64 (n:Int))):=ZZ (fun n=>World.cell?_setCell_same _ _ _ (cell_of_row W0 (w.heap.size+1) 0 _ _ _ hB))
 have HSB:Hid (∀ ns,Below w.heap.size w (ZbY W0 ([(w.heap.size+1,0)].take (List.length ns)) ns)):=ZZ (fun ns=>Zef W0 _ ns _ w (fun p hp=>by
  have:=List.mem_of_mem_take hp
  rw[List.mem_singleton.1 this]
  simp) HB0.out)
 have HSA:Hid (∀ ns,Bx (ZbY W0 ([(w.heap.size+1,0)].take (List.length ns)) ns) w.heap.size #[.int .i64 0,.slice none 0 0,.bool false,.int .i64 0]):=ZZ (fun ns=>(Zee W0 _ ns _ (fun p hp=>by
  have:=List.mem_of_mem_take hp
  rw[List.mem_singleton.1 this]
  simp)).trans hEA)
 have HG1:=ZZ (fun ns l h=>Zlf (b:=b) (ns:=ns) (l:=l) h)
 have HG0:=ZZ (fun h=>Zlg (b:=b) h)
 have HRN:Hid (ZbQ b=if(Zab b).2=0∨b.length<(Zab b).2+(Zab b).1 then(Zbi,3) else if(ZhU ((b.drop (Zab b).2).take (Zab b).1)).2=3 then(Zbi,3) else match ZeM (b.drop ((Zab b).2+(Zab b).1)) with
  | none=>(Zbi,3)
  | some t=>(⟨0,(ZhU ((b.drop (Zab b).2).take (Zab b).1)).1,t⟩,(ZhU ((b.drop (Zab b).2).take (Zab b).1)).2)):=ZZ rfl
 have hd:=Zch b
 have hdn:(Zab b).1<4611686018427387904:=by
  rcases Zax b with h | h
  ·rw[h];decide
  ·exact h.1
 have HDS:=ZZ (fun v1 l W h h2=>Zli v1 l W h h2)
 have HRT:=ZZ (fun v1 l W h h2=>Zoe v1 l W h h2)
 have HLEN:Hid ([(w.heap.size+1,0)].length=1):=ZZ rfl
 rw[HLEN.out] at HGN
 generalize Zcq 1 b=GL at *
 have HRW:=ZZ hr
 obtain⟨va,vc,hv⟩:∃ a c,v=.slice a b.length c:=by obtain⟨a,c,h,-⟩:=hr;exact⟨a,c,h⟩
 subst hv
 clear hr hA hB hC hEA HLEN
 go_enter Tryz.func118,Tryz.ntmps118
 go_wp2_with fail
 rw[<-hW0]
 refine HGN.out.mono ?_
 rintro e W1 ⟨v1,l,ns,rfl,hr1,hn1,hs1,hlt1,hle1,hal1⟩
 have HB1:Hid (Below w.heap.size w W1):=ZZ ((HSB.out ns).trans (hal1.below _))
 have HA1:Hid (Bx W1 w.heap.size #[.int .i64 0,.slice none 0 0,.bool false,.int .i64 0]):=ZZ ((HSA.out ns).below (hal1.below (ZbY W0 ([(w.heap.size+1,0)].take ns.length) ns).heap.size) zL)
 have HV1:=ZZ hr1
 have HR1:=ZZ (hr1 W1 (HRW.out.below HB1.out zL))
 obtain⟨a1,c1,hv1⟩:∃ a c,v1=.slice a l.length c:=by obtain⟨a,c,h,-⟩:=HR1.out;exact⟨a,c,h⟩
 subst hv1
 obtain⟨z0,y0⟩:=HA1.out.cell 0
 obtain⟨z1,y1⟩:=HA1.out.cell 1
 obtain⟨z2,y2⟩:=HA1.out.cell 2
 obtain⟨z3,y3⟩:=HA1.out.cell 3
 clear HGN HSB HB0 hW0 HSA
 cases GL with
 | none=>
  have HF:Hid ((ZbQ b).2=3):=ZZ (by rw[HRN.out,if_pos (.inl (HG0.out rfl))])
  clear hn1 hs1 hlt1 hle1 hal1 HRN HG0 HG1
  go_wp2
  refine bodyPost_ret (v:=.tuple #[.agg #[.int .i64 0,.slice none 0 0,.bool false,.int .i64 0],.slice none 0 0,.bool false]) (by simp[results,Tryz.results118,go_sem,z0,z1,z2,z3]) rfl ?_
  exact ZuD.none HF.out (Zgk HB1.out _ zL _ _ _ _)
 | some gp=>
  have:=hs1 gp rfl
  subst this
  obtain⟨g1,g2,g3⟩:=HG1.out _ _ rfl
  subst g2
  have hll:l.length=b.length-(Zab b).2:=by rw[g3,List.length_drop]
  have hcell:W1.cell? ⟨w.heap.size+1,0,none⟩=some (.int .i64 ((Zab b).1:Int)):=by
   rw[hal1.cell]
   exact HSC.out _
  rw[<-List.drop_drop,<-g3] at HRN
  generalize (Zab b).1=n at *
  generalize (Zab b).2=k at *
  clear hn1 hs1 hlt1 hle1 hal1 HG0 HG1 g3 HSC
  by_cases hbig:l.length<n
  ·have HF:Hid ((ZbQ b).2=3):=ZZ (by rw[HRN.out,if_pos (.inr (by omega))])
   have hbi:(l.length:Int)<(n:Int):=by omega
   clear hll HRN
   go_wp2
   refine bodyPost_ret (v:=.tuple #[.agg #[.int .i64 0,.slice none 0 0,.bool false,.int .i64 0],.slice none 0 0,.bool false]) (by simp[results,Tryz.results118,go_sem,z0,z1,z2,z3]) rfl ?_
   exact ZuD.none HF.out (Zgk HB1.out _ zL _ _ _ _)
  have hbi:¬ (l.length:Int)<(n:Int):=by omega
  have hcap:l.length<=c1:=by
   obtain⟨a',c',h,h2,-⟩:=HR1.out
   simp only [Value.slice.injEq] at h
   omega
  obtain⟨xa,xn,xc,hcut1,hcv1⟩:=ZyN a1 l c1 hcap n (by omega)
  obtain⟨ua,uc,hcut2,hcv2⟩:=Zjx a1 l c1 hcap n (by omega)
  have HDQ:=ZZ (HDS.out _ (l.take n) W1 (hcv1 W1 HR1.out) (by rw[List.length_take];omega))
  have HV2:=ZZ (fun W h=>hcv2 W (HV1.out W h))
  have HRQ:=ZZ (fun v2 W h=>HRT.out v2 (l.drop n) W h (by rw[List.length_drop];omega))
  have HRM:Hid (ZbQ b=if(ZhU (l.take n)).2=3 then(Zbi,3) else match ZeM (l.drop n) with
   | none=>(Zbi,3)
   | some t=>(⟨0,(ZhU (l.take n)).1,t⟩,(ZhU (l.take n)).2)):=ZZ (by rw[HRN.out,if_neg (by omega)])
  have HCO:=ZZ (Ztk (l.take n))
  clear hcv1 hcv2 HRN HDS HRT hll hbig hcap hd g1
  generalize ZhU (l.take n)=DS at *
  generalize ZeM (l.drop n)=TL at *
  generalize l.drop n=l2 at *
  obtain⟨⟨dk,dL,dsh,dg⟩,er⟩:=DS
  unfold Zdj at HDQ
  dsimp only at HDQ HRM HCO
  go_wp2_with fail
  refine HDQ.out.mono ?_
  rintro e W2 ⟨vl,rfl,hl2,hk2,he2,hf2,hb2⟩
  obtain⟨la,lc,hvl⟩:∃ a c,vl=.slice a dL.length c:=by obtain⟨a,c,h,-⟩:=hl2;exact⟨a,c,h⟩
  subst hvl
  have hs12:=HB1.out.size
  have HB2:=ZZ (HB1.out.trans (hb2.mono HB1.out.size))
  have HA2:=ZZ (HA1.out.below hb2 zL)
  have hcell2:W2.cell? ⟨w.heap.size+1,0,none⟩=some (.int .i64 (n:Int)):=(hb2.cell (p:=⟨w.heap.size+1,0,none⟩) (World.block_lt_of_cell? W1 ⟨w.heap.size+1,0,none⟩ hcell)).trans hcell
  have HL2:=ZZ hl2
  have HKE:=ZZ (And.intro hk2 he2)
  have HF2:Hid (∀ k,(Value.slice la dL.length lc).ownBlock=some k->w.heap.size<k):=ZZ (fun k hk=>by
   have h1:=hf2 k hk
   have h2:=HA1.out.lt
   omega)
  clear hcell hl2 hk2 he2 hf2 hb2 HDQ z0 z1 z2 z3 y0 y1 y2 y3 HA1 HR1
  obtain⟨W3,hW3⟩:∃ W3,W3=W2.alloc (.cells #[.int .i64 dk,.slice la dL.length lc,.bool dsh,.int .i64 dg] 38):=⟨_,rfl⟩
  have HB23:Hid (Below W2.heap.size W2 W3):=ZZ (by rw[hW3];exact(Below.refl _ _).alloc zL _)
  have HS3:Hid (Bx W3 W2.heap.size #[.int .i64 dk,.slice la dL.length lc,.bool dsh,.int .i64 dg]):=ZZ (by rw[hW3];exact heap_alloc_new W2 _)
  have HB3:=ZZ (HB2.out.trans (HB23.out.mono HB2.out.size))
  have HA3:=ZZ (HA2.out.below HB23.out zL)
  have hcell3:W3.cell? ⟨w.heap.size+1,0,none⟩=some (.int .i64 (n:Int)):=(HB23.out.cell (p:=⟨w.heap.size+1,0,none⟩) (World.block_lt_of_cell? W2 ⟨w.heap.size+1,0,none⟩ hcell2)).trans hcell2
  have HL3:=ZZ (HL2.out.below HB23.out zL)
  go_upto_region 6 with fail
  rw[<-hW3]
  obtain⟨QB,hQB⟩:∃ QB,QB=W2.heap.size:=⟨_,rfl⟩
  have hQl:w.heap.size<QB:=by have:=HA2.out.lt;omega
  rw[<-hQB] at HS3 ⊢
  clear hW3 hcell2 hQB HL2 HA2 HB2 HB23
  by_cases h3:er=3
  ·have h3':(er == 3)=true:=beq_iff_eq.2 h3
   have HF:Hid ((ZbQ b).2=3):=ZZ (by rw[HRM.out,if_pos h3])
   obtain⟨z0,y0⟩:=HA3.out.cell 0
   obtain⟨z1,y1⟩:=HA3.out.cell 1
   obtain⟨z2,y2⟩:=HA3.out.cell 2
   obtain⟨z3,y3⟩:=HA3.out.cell 3
   clear h3
   go_wp2
   refine bodyPost_ret (v:=.tuple #[.agg #[.int .i64 0,.slice none 0 0,.bool false,.int .i64 0],.slice none 0 0,.bool false]) (by simp[results,Tryz.results118,go_sem,z0,z1,z2,z3]) rfl ?_
   exact ZuD.none HF.out (Zgk HB3.out _ zL _ _ _ _)
  have h3':(er == 3)=false:=beq_eq_false_iff_ne.2 h3
  have HH3:=ZZ h3
  clear h3
  go_wp2_with fail
  refine(HRQ.out _ _ (HV2.out W3 (HRW.out.below HB3.out zL))).mono ?_
  rintro e W4 ⟨vt,t,rfl,ho4,hi4,ht4,hb4⟩
  obtain⟨ta,tc,hvt⟩:=ho4.shape
  subst hvt
  have HB4:=ZZ (HB3.out.trans (hb4.mono HB3.out.size))
  have HA4:=ZZ (HA3.out.below hb4 zL)
  have HS4:=ZZ (HS3.out.below hb4 zL)
  have HL4:=ZZ (HL3.out.below hb4 zL)
  have HE4:=ZZ (ho4.rd hi4)
  have HTF:Hid (∀ k,(Value.slice ta t.length tc).ownBlock=some k->w.heap.size<k):=ZZ (fun k hk=>by
   have h1:=(World.ownsRow.lt ho4 k hk).1
   have h2:=HA3.out.lt
   omega)
  have HT4:=ZZ ht4
  clear ho4 hi4 ht4 hb4 hcell3 HA3 HS3 HL3
  obtain⟨z0,y0⟩:=HA4.out.cell 0
  obtain⟨z1,y1⟩:=HA4.out.cell 1
  obtain⟨z2,y2⟩:=HA4.out.cell 2
  obtain⟨z3,y3⟩:=HA4.out.cell 3
  obtain⟨s0,-⟩:=HS4.out.cell 0
  obtain⟨s1,-⟩:=HS4.out.cell 1
  obtain⟨s2,-⟩:=HS4.out.cell 2
  obtain⟨s3,-⟩:=HS4.out.cell 3
  obtain⟨ok,hok⟩:∃ ok,ok=TL.isSome:=⟨_,rfl⟩
  rw[<-hok]
  have HOK:=ZZ hok
  clear hok
  go_wp2
  refine bodyPost_ret (v:=.tuple #[.agg #[.int .i64 dk,.slice la dL.length lc,.bool dsh,.int .i64 dg],.slice ta t.length tc,.bool ok]) (by simp[results,Tryz.results118,go_sem,z0,z1,z2,z3]) rfl ?_
  have hbt:=ZyO W4 w.heap.size (.int .i64 dk) (.slice la dL.length lc) (.bool dsh) (.int .i64 dg)
  refine⟨_,_,⟨dk,dL,dsh,dg⟩,t,ok,rfl,HL4.out.but hbt (.inr fun k hk=>by have:=HF2.out k hk;omega),HKE.out.1,HKE.out.2,HE4.out.but hbt (.inr fun k hk=>by have:=HTF.out k hk;omega),(fun k hk=>Nat.le_of_lt (HF2.out k hk)),(fun k hk=>Nat.le_of_lt (HTF.out k hk)),(fun h=>?_),(fun h=>?_),Zgk HB4.out _ zL _ _ _ _⟩
  ·rw[HRM.out,if_neg HH3.out]
   cases TL with
   | none=>rfl
   | some t'=>rw[h] at HOK;cases HOK.out
  ·cases TL with
   | none=>rw[h] at HOK;cases HOK.out
   | some t'=>
    refine⟨er,by rw[HRM.out,if_neg HH3.out,HT4.out t' rfl],?_⟩
    rcases HCO.out with h1 | ⟨h1,h2 | h2⟩
    ·exact .inl h1
    ·exact absurd h2 HH3.out
    ·exact .inr ⟨h2,h1⟩
def Bq (w:World) (b:Nat) (cs:Array Value):Prop:=w.heap[b]?=some (.cells cs 148 (0,0))
theorem Bq.lt {w:World} {b:Nat} {cs:Array Value} (h:Bq w b cs):b<w.heap.size:=(Array.getElem?_eq_some_iff.1 h).1
theorem Bq.below {w w':World} {b B:Nat} {cs:Array Value} (h:Bq w b cs) (hb:Below B w w') (hB:w.heap.size<=B):Bq w' b cs:=(hb.block b (by have:=h.lt;omega)).trans h
theorem Bq.cell {w:World} {b:Nat} {cs:Array Value} (h:Bq w b cs) (j:Nat):w.cell? ⟨b,j,none⟩=cs[j]?∧w.frozen? ⟨b,j,none⟩=false:=⟨cell_of_row w b j _ _ _ h,frozen_of_row w b j _ _ h⟩
theorem Bq.set {w:World} {b:Nat} {cs:Array Value} (h:Bq w b cs) (j:Nat) (x:Value):Bq (w.setCell ⟨b,j,none⟩ x) b (cs.setIfInBounds j x):=by
 have:=heap_setCell_same w b j _ _ x h
 unfold Bq
 simpa using this
theorem Bq.other {w:World} {b c:Nat} {cs:Array Value} (h:Bq w b cs) (j:Nat) (x:Value) (hne:b≠c):Bq (w.setCell ⟨c,j,none⟩ x) b cs:=(Below.heap_setCell _ _ _ _ hne).trans h
theorem ZyP (w:World) (x y z u:Obj):((((w.alloc x).alloc y).alloc z).alloc u).heap[w.heap.size]?=some x∧((((w.alloc x).alloc y).alloc z).alloc u).heap[w.heap.size+1]?=some y∧((((w.alloc x).alloc y).alloc z).alloc u).heap[w.heap.size+2]?=some z∧((((w.alloc x).alloc y).alloc z).alloc u).heap[w.heap.size+3]?=some u:=by
 obtain⟨h1,h2,h3⟩:=Zle w x y z
 refine⟨(Below.heap_alloc _ _ _ (by simp;omega)).trans h1,(Below.heap_alloc _ _ _ (by simp)).trans h2,(Below.heap_alloc _ _ _ (by simp)).trans h3,?_⟩
 have:=heap_alloc_new (((w.alloc x).alloc y).alloc z) u
 simpa using this
theorem ZuE {d:List UInt8} (h:¬ (d.length<1∨(d.getD 0 0).toNat≠115)):ZbT d=match Zcq 3 (d.drop 1) with
 | none=>(0,0,0,3)
 | some (ns,l)=>if ns.getD 0 0≠3 then(0,0,0,6) else if l.length≠4 then(0,0,0,3) else(ns.getD 1 0,ns.getD 2 0,Lib.leNat l,0):=by
 unfold ZbT
 rw[if_neg h,Zcq]
 by_cases h1:(Zab (d.drop 1)).2=0
 ·rw[if_pos (.inl h1),if_pos h1]
 rw[if_neg h1,Zcq]
 simp only [List.drop_drop]
 by_cases h2:(Zab (d.drop (1+(Zab (d.drop 1)).2))).2=0
 ·rw[if_pos (.inr (.inl h2)),if_pos h2]
  rfl
 rw[if_neg h2,ZhJ]
 simp only [List.drop_drop]
 by_cases h3:(Zab (d.drop (1+(Zab (d.drop 1)).2+(Zab (d.drop (1+(Zab (d.drop 1)).2))).2))).2=0
 ·rw[if_pos (.inr (.inr h3)),if_pos h3]
  rfl
 ·rw[if_neg (by omega),if_neg h3]
  simp only [Option.map_some,List.getD_cons_zero,List.getD_cons_succ]
theorem ZpL:∀ (n:Nat) (b:List UInt8) (ns:List Nat) (l:List UInt8),Zcq n b=some (ns,l)->ns.length=n
 | 0,b,ns,l,h=>by
  injection h with h
  injection h with h _
  rw[<-h]
  rfl
 | n+1,b,ns,l,h=>by
  rw[Zcq] at h
  split at h
  ·cases h
  ·cases hg:Zcq n (b.drop (Zab b).2) with
   | none=>rw[hg] at h;cases h
   | some r=>
    rw[hg] at h
    injection h with h
    injection h with h _
    obtain⟨ms,m⟩:=r
    rw[<-h,List.length_cons,ZpL n _ ms m hg]
theorem ZwT {W:World} {R Q:Nat} (hne:R≠Q) (h:Bq W R #[.int .i64 0,.int .i64 0,.int .u32 0]) (hq:W.heap[Q]?=some (.cells #[.int .i64 0] 3 (0,0))) (ns:List Nat) (hn:ns.length<=3):
 ∃ u x y:Int,Bq (ZbY W ([(Q,0),(R,0),(R,1)].take ns.length) ns) R #[.int .i64 x,.int .i64 y,.int .u32 0]∧(ZbY W ([(Q,0),(R,0),(R,1)].take ns.length) ns).cell? ⟨Q,0,none⟩=some (.int .i64 u)∧(ns.length=3->u=((ns.getD 0 0:Nat):Int)∧x=((ns.getD 1 0:Nat):Int)∧y=((ns.getD 2 0:Nat):Int)):=by
 have hq0:W.cell? ⟨Q,0,none⟩=some (.int .i64 0):=cell_of_row W Q 0 _ _ _ hq
 match ns,hn with
 | [],_=>exact⟨0,0,0,h,hq0,fun h=>absurd h (by simp)⟩
 | [a],_=>exact⟨a,0,0,h.other 0 _ hne,World.cell?_setCell_same _ _ _ hq0,fun h=>absurd h (by simp)⟩
 | [a,b],_=>
  refine⟨a,b,0,(h.other 0 _ hne).set 0 _,?_,fun h=>absurd h (by simp)⟩
  show((W.setCell ⟨Q,0,none⟩ _).setCell ⟨R,0,none⟩ _).cell? ⟨Q,0,none⟩=_
  rw[World.cell?_setCell_other _ _ _ _ (by simp)]
  exact World.cell?_setCell_same _ _ _ hq0
 | [a,b,c],_=>
  refine⟨a,b,c,((h.other 0 _ hne).set 0 _).set 1 _,?_,fun _=>⟨rfl,rfl,rfl⟩⟩
  show(((W.setCell ⟨Q,0,none⟩ _).setCell ⟨R,0,none⟩ _).setCell ⟨R,1,none⟩ _).cell? ⟨Q,0,none⟩=_
  rw[World.cell?_setCell_other _ _ _ _ (by simp),World.cell?_setCell_other _ _ _ _ (by simp)]
  exact World.cell?_setCell_same _ _ _ hq0
def ZBb (w:World) (r:Nat × Nat × Nat × Int) (e:Ending) (w':World):Prop:=
 e=.returned (.tuple #[.agg #[.int .i64 (r.1:Int),.int .i64 (r.2.1:Int),.int .u32 (r.2.2.1:Int)],.int .i64 r.2.2.2])∧Below w.heap.size w w'
theorem ZhK {C:Nat} {w0 w:World} (h:Below C w0 w) (R:Nat) (hR:C<=R) (x0 x1 x2:Value):Below C w0 (((w.setCell ⟨R,0,none⟩ x0).setCell ⟨R,1,none⟩ x1).setCell ⟨R,2,none⟩ x2):=
 ((h.setCell hR _).setCell hR _).setCell hR _
theorem Zjl (v:Value) (d:List UInt8) (w:World) (hr:Rd w v d):
 Calls Tryz.prog 116 #[v] w fun e w'=>ZBb w (ZbT d) e w':=by
 have HR:=ZZ hr
 obtain⟨ao,cap,rfl,hlc,hcm,-,hao⟩:=hr
 have hml:(d.length:Int)<=9223372036854775807:=by unfold maxLen at hcm;omega
 have HB0:Hid (∀ X,Below w.heap.size w (w.alloc X)):=fun X=>(Below.refl _ _).alloc zL X
 by_cases h0:d.length=0
 ·have HE:Hid (ZbT d=(0,0,0,3)):=ZZ (by unfold ZbT;rw[if_pos (.inl (by omega))])
  have h0':((d.length:Int) == 0)=true:=by rw[beq_iff_eq];omega
  rw[HE.out]
  clear h0 hao
  go_enter Tryz.func116,Tryz.ntmps116
  go_wp2
  refine bodyPost_ret (v:=.tuple #[.agg #[.int .i64 0,.int .i64 0,.int .u32 0],.int .i64 3]) (by simp[results,Tryz.results116,go_sem]) rfl ?_
  exact⟨rfl,HB0.out _⟩
 have h0':((d.length:Int) == 0)=false:=beq_eq_false_iff_ne.2 (by omega)
 have hpos:(0:Int)<(d.length:Int):=by omega
 have hne:d≠[]:=fun e=>by rw[e] at h0;simp at h0
 rcases hao with he | ⟨b,off,rfl,hc⟩
 ·exact absurd he hne
 have hc0:=hc 0 (by omega)
 have hbl:b<w.heap.size:=World.block_lt_of_cell? w ⟨b,off+0,none⟩ hc0
 have hck:∀ X,(w.alloc X).cell? ⟨b,off,none⟩=some (.int .u8 ((d.getD 0 0).toNat:Nat)):=fun X=>((HB0.out X).cell (p:=⟨b,off,none⟩) hbl).trans hc0
 clear hc hc0 hcm
 by_cases hm:(d.getD 0 0).toNat=115
 case neg=>
  have HE:Hid (ZbT d=(0,0,0,3)):=ZZ (by unfold ZbT;rw[if_pos (.inr hm)])
  have hm':((((d.getD 0 0).toNat:Nat):Int) != 115)=true:=by
   rw[bne_iff_ne]
   omega
  rw[HE.out]
  clear hm hne h0
  generalize (((d.getD 0 0).toNat:Nat):Int)=c0 at *
  go_enter Tryz.func116,Tryz.ntmps116
  go_wp2
  refine bodyPost_ret (v:=.tuple #[.agg #[.int .i64 0,.int .i64 0,.int .u32 0],.int .i64 3]) (by simp[results,Tryz.results116,go_sem]) rfl ?_
  exact⟨rfl,HB0.out _⟩
 have hm':((((d.getD 0 0).toNat:Nat):Int) != 115)=false:=by
  rw[hm]
  rfl
 have HMG:=ZZ (ZuE (d:=d) (by omega))
 generalize (((d.getD 0 0).toNat:Nat):Int)=c0 at *
 obtain⟨xa,xc,hcut,hcv⟩:=Zjx (some ⟨b,off,none⟩) d cap hlc 1 (by omega)
 have hcut':∀ W,(Instr.sliceAt 53 (.slice (some ⟨b,off,none⟩) d.length cap) (some (.int .i64 1)) none none).run Tryz.prog W=.ok (.slice xa (d.drop 1).length xc) W:=hcut
 have HCV:=ZZ (fun W h=>hcv W h)
 obtain⟨W0,hW0⟩:∃ W0,W0=(((w.alloc (.cells #[.int .i64 0,.int .i64 0,.int .u32 0] 148)).alloc (.cells #[.int .i64 0,.int .i64 0,.int .u32 0] 148)).alloc (.cells #[.int .i64 0] 3)).alloc (.cells #[.pointer (some ⟨w.heap.size+1+1,0,none⟩),.pointer (some ⟨w.heap.size+1,0,none⟩),.pointer (some ⟨w.heap.size+1,1,none⟩)] 209):=⟨_,rfl⟩
 have h4:=ZyP w (.cells #[.int .i64 0,.int .i64 0,.int .u32 0] 148) (.cells #[.int .i64 0,.int .i64 0,.int .u32 0] 148) (.cells #[.int .i64 0] 3) (.cells #[.pointer (some ⟨w.heap.size+1+1,0,none⟩),.pointer (some ⟨w.heap.size+1,0,none⟩),.pointer (some ⟨w.heap.size+1,1,none⟩)] 209)
 rw[<-hW0] at h4
 obtain⟨hA,hB,hQ,hC⟩:=h4
 have HB00:Hid (Below w.heap.size w W0):=ZZ (by rw[hW0];exact((((Below.refl _ _).alloc zL _).alloc (by simp) _).alloc (by simp;omega) _).alloc (by simp;omega) _)
 have hEA:Bq W0 w.heap.size #[.int .i64 0,.int .i64 0,.int .u32 0]:=hA
 have hEB:Bq W0 (w.heap.size+1) #[.int .i64 0,.int .i64 0,.int .u32 0]:=hB
 have HGN:=ZZ (Zdi (w.heap.size+1+1+1) [(w.heap.size+1+1,0),(w.heap.size+1,0),(w.heap.size+1,1)] (.slice xa (d.drop 1).length xc) (d.drop 1) W0 (HCV.out W0 (HR.out.below HB00.out zL)) (fun p hp=>by
  simp only [List.mem_cons,List.not_mem_nil,or_false] at hp
  rcases hp with rfl | rfl | rfl
  ·exact⟨⟨⟨0,cell_of_row W0 (w.heap.size+2) 0 _ _ _ hQ⟩,frozen_of_row W0 (w.heap.size+2) 0 _ _ hQ⟩,by simp⟩
  ·exact⟨⟨⟨0,(hEB.cell 0).1⟩,(hEB.cell 0).2⟩,by simp⟩
  ·exact⟨⟨⟨0,(hEB.cell 1).1⟩,(hEB.cell 1).2⟩,by simp⟩) (by simp) hC 3 rfl)
 have HBX:=ZZ (fun ns h=>ZwT (Q:=w.heap.size+1+1) (by omega) hEB hQ ns h)
 have HSB:Hid (∀ ns,Below w.heap.size w (ZbY W0 ([(w.heap.size+1+1,0),(w.heap.size+1,0),(w.heap.size+1,1)].take (List.length ns)) ns)):=ZZ (fun ns=>Zef W0 _ ns _ w (fun p hp=>by
  have:=List.mem_of_mem_take hp
  simp only [List.mem_cons,List.not_mem_nil,or_false] at this
  rcases this with rfl | rfl | rfl <;> (simp only;omega)) HB00.out)
 have HSA:Hid (∀ ns,Bq (ZbY W0 ([(w.heap.size+1+1,0),(w.heap.size+1,0),(w.heap.size+1,1)].take (List.length ns)) ns) w.heap.size #[.int .i64 0,.int .i64 0,.int .u32 0]):=ZZ (fun ns=>(Zee W0 _ ns _ (fun p hp=>by
  have:=List.mem_of_mem_take hp
  simp only [List.mem_cons,List.not_mem_nil,or_false] at this
  rcases this with rfl | rfl | rfl <;> (simp only;omega))).trans hEA)
 have HFX:=ZZ (fun v1 l W h=>ZoV v1 l W h)
 have HLN:=ZZ (fun ns l h=>ZpL 3 (d.drop 1) ns l h)
 have HLEN:Hid ([(w.heap.size+1+1,0),(w.heap.size+1,0),(w.heap.size+1,1)].length=3):=ZZ rfl
 rw[HLEN.out] at HGN
 generalize Zcq 3 (d.drop 1)=GL at *
 obtain⟨RM,hRM⟩:∃ RM,RM=ZbT d:=⟨_,rfl⟩
 rw[<-hRM] at HMG ⊢
 clear hRM hcut hcv hA hB hQ hC hEA hEB hm hne h0 HLEN
 generalize d.drop 1=D1 at *
 go_enter Tryz.func116,Tryz.ntmps116
 go_wp2_with fail
 rw[<-hW0]
 refine HGN.out.mono ?_
 rintro e W1 ⟨v1,l,ns,rfl,hr1,hn1,hs1,hlt1,hle1,hal1⟩
 obtain⟨uu,xx,yy,hbx,hbq,hxy⟩:=HBX.out ns hle1
 have HE1:Hid (Bq W1 (w.heap.size+1) #[.int .i64 xx,.int .i64 yy,.int .u32 0]):=ZZ (hbx.below (hal1.below (ZbY W0 ([(w.heap.size+1+1,0),(w.heap.size+1,0),(w.heap.size+1,1)].take ns.length) ns).heap.size) zL)
 have HA1:Hid (Bq W1 w.heap.size #[.int .i64 0,.int .i64 0,.int .u32 0]):=ZZ ((HSA.out ns).below (hal1.below (ZbY W0 ([(w.heap.size+1+1,0),(w.heap.size+1,0),(w.heap.size+1,1)].take ns.length) ns).heap.size) zL)
 have hcv:W1.cell? ⟨w.heap.size+1+1,0,none⟩=some (.int .i64 uu):=by rw[hal1.cell];exact hbq
 have HB1:Hid (Below w.heap.size w W1):=ZZ ((HSB.out ns).trans (hal1.below _))
 have HR1:=ZZ (hr1 W1 (HCV.out W1 (HR.out.below HB1.out zL)))
 obtain⟨a1,c1,hv1⟩:∃ a c,v1=.slice a l.length c:=by obtain⟨a,c,h,-⟩:=HR1.out;exact⟨a,c,h⟩
 subst hv1
 obtain⟨z0,y0⟩:=HA1.out.cell 0
 obtain⟨z1,y1⟩:=HA1.out.cell 1
 obtain⟨z2,y2⟩:=HA1.out.cell 2
 clear HGN HBX HSB HSA hW0 hbx hbq hal1 hr1 hlt1 hle1 HB00 hck hcut' HB0
 cases GL with
 | none=>
  have HE:Hid (RM=(0,0,0,3)):=ZZ HMG.out
  clear hn1 hs1 hxy HMG HLN
  go_wp2
  refine bodyPost_ret (v:=.tuple #[.agg #[.int .i64 0,.int .i64 0,.int .u32 0],.int .i64 3]) (by simp[results,Tryz.results116,go_sem,z0,z1,z2]) rfl ?_
  rw[HE.out]
  exact⟨rfl,ZhK HB1.out _ zL _ _ _⟩
 | some gp=>
  have:=hs1 gp rfl
  subst this
  obtain⟨g1,g2,g3⟩:=hxy (HLN.out _ _ rfl)
  have HM2:Hid (RM=if ns.getD 0 0≠3 then(0,0,0,6) else if l.length≠4 then(0,0,0,3) else(ns.getD 1 0,ns.getD 2 0,Lib.leNat l,0)):=ZZ HMG.out
  clear hn1 hs1 hxy HMG HLN
  generalize ns.getD 0 0=n0 at *
  generalize ns.getD 1 0=n1 at *
  generalize ns.getD 2 0=n2 at *
  subst g1 g2 g3
  by_cases hv3:n0=3
  case neg=>
   have HE:Hid (RM=(0,0,0,6)):=ZZ (by rw[HM2.out,if_pos hv3])
   have hv3':((n0:Int) != 3)=true:=by rw[bne_iff_ne];omega
   clear hv3 HM2
   go_wp2
   refine bodyPost_ret (v:=.tuple #[.agg #[.int .i64 0,.int .i64 0,.int .u32 0],.int .i64 6]) (by simp[results,Tryz.results116,go_sem,z0,z1,z2]) rfl ?_
   rw[HE.out]
   exact⟨rfl,ZhK HB1.out _ zL _ _ _⟩
  have hv3':((n0:Int) != 3)=false:=by rw[bne_eq_false_iff_eq];omega
  by_cases hl4:l.length=4
  case neg=>
   have HE:Hid (RM=(0,0,0,3)):=ZZ (by rw[HM2.out,if_neg (by omega),if_pos hl4])
   have hl4':((l.length:Int) != 4)=true:=by rw[bne_iff_ne];omega
   clear hv3 HM2 hl4
   go_wp2
   refine bodyPost_ret (v:=.tuple #[.agg #[.int .i64 0,.int .i64 0,.int .u32 0],.int .i64 3]) (by simp[results,Tryz.results116,go_sem,z0,z1,z2]) rfl ?_
   rw[HE.out]
   exact⟨rfl,ZhK HB1.out _ zL _ _ _⟩
  have hl4':((l.length:Int) != 4)=false:=by rw[bne_eq_false_iff_eq];omega
  have HE:Hid (RM=(n1,n2,Lib.leNat l,0)):=ZZ (by rw[HM2.out,if_neg (by omega),if_neg (by omega)])
  have HFQ:=ZZ (HFX.out _ l W1 HR1.out)
  rw[List.take_of_length_le (by omega)] at HFQ
  have hlt:Lib.leNat l<4294967296:=by
   have:=ZnA l
   rw[hl4] at this
   exact this
  have HL4:Hid (l.length=4):=ZZ hl4
  generalize Lib.leNat l=cc at *
  clear hv3 HM2 hl4
  obtain⟨e0,f0⟩:=HE1.out.cell 0
  obtain⟨e1,f1⟩:=HE1.out.cell 1
  obtain⟨e2,f2⟩:=HE1.out.cell 2
  have hne1:¬ (w.heap.size=w.heap.size+1):=by omega
  have hne2:¬ (w.heap.size+1=w.heap.size):=by omega
  have hcv32:IntKind.u32.wrap (cc:Int)=(cc:Int):=by
   rw[IntKind.wrap_u32]
   omega
  have hci:(0:Int)<=(cc:Int):=by omega
  have hcj:(cc:Int)<4294967296:=by omega
  obtain⟨CC,hCC⟩:∃ CC:Int,CC=(cc:Int):=⟨_,rfl⟩
  obtain⟨N1,hN1⟩:∃ N1:Int,N1=(n1:Int):=⟨_,rfl⟩
  obtain⟨N2,hN2⟩:∃ N2:Int,N2=(n2:Int):=⟨_,rfl⟩
  rw[<-hCC] at HFQ hcv32 hci hcj
  rw[<-hN1] at e0
  rw[<-hN2] at e1
  have HCC:=ZZ hCC
  have HN1:=ZZ hN1
  have HN2:=ZZ hN2
  clear hCC hN1 hN2 hlt
  clear HL4
  go_wp2_with fail
  refine HFQ.out.mono ?_
  rintro e W2 ⟨rfl,hw2⟩
  rw[hw2]
  clear hw2 W2
  go_wp2
  refine bodyPost_ret (v:=.tuple #[.agg #[.int .i64 N1,.int .i64 N2,.int .u32 CC],.int .i64 0]) (by simp[results,Tryz.results116,go_sem,z0,z1,z2]) rfl ?_
  rw[HE.out]
  exact⟨by rw[HCC.out,HN1.out,HN2.out],ZhK (HB1.out.setCell (Nat.le_succ _) _) _ zL _ _ _⟩
theorem Zlj (va vb:Value) (a b:List UInt8) (w:World) (ha:Rd w va a) (hb:Rd w vb b):
 Calls Tryz.prog 164 #[va,vb] w fun e w'=>e=.returned (.bool (decide (a=b)))∧w'=w:=by
 have ca:=ha.str
 have cb:=hb.str
 have hse:((bs a).toList == (bs b).toList)=decide (a=b):=by
  rw[ZBw]
  by_cases h:a=b
  ·rw[h,decide_eq_true rfl];exact beq_self_eq_true b
  ·rw[decide_eq_false h,beq_eq_false_iff_ne];exact h
 generalize decide (a=b)=D at *
 clear ha hb
 go_enter Tryz.func164,Tryz.ntmps164
 go_wp2
 go_ret
 exact⟨rfl,rfl⟩
theorem ZpM {A B:List (List UInt8)} {k:Nat} (hA:k<A.length) (hB:k<B.length) (h:A.take k=B.take k) (h2:A.getD k []=B.getD k []):A.take (k+1)=B.take (k+1):=by
 rw[List.take_add_one,List.take_add_one,h]
 congr 1
 simp only [List.getD,List.getElem?_eq_getElem hA,List.getElem?_eq_getElem hB,Option.getD_some] at h2 ⊢
 rw[h2]
theorem Zmb (va vb:Value) (A B:List (List UInt8)) (w:World) (ha:RdL w va A) (hb:RdL w vb B):
 Calls Tryz.prog 163 #[va,vb,.func (.func 164) #[] #[]] w fun e w'=>e=.returned (.bool (decide (A=B)))∧w'=w:=by
 obtain⟨aa,ac,rfl,hla,hcm,-,haa⟩:=ha
 obtain⟨ba,bc,rfl,-,-,-,hab⟩:=hb
 have HAA:=ZZ haa
 have HAB:=ZZ hab
 have HEQ:=ZZ (fun x y a b h1 h2=>Zlj x y a b w h1 h2)
 obtain⟨D,hD⟩:∃ D,D=decide (A=B):=⟨_,rfl⟩
 rw[<-hD]
 have HD1:Hid (A=B->D=true):=fun h=>by rw[hD];exact decide_eq_true h
 have HD0:Hid (¬ A=B->D=false):=fun h=>by rw[hD];exact decide_eq_false h
 have hml:(A.length:Int)<=9223372036854775807:=by unfold maxLen at hcm;omega
 clear hD haa hab hcm hla
 by_cases hlen:A.length=B.length
 case neg=>
  have hne:((A.length:Int) != (B.length:Int))=true:=by rw[bne_iff_ne];omega
  have HE:=ZZ (HD0.out (fun h=>hlen (by rw[h])))
  clear hlen
  go_enter Tryz.func163,Tryz.ntmps163
  go_wp2
  go_ret
  rw[HE.out]
  exact⟨rfl,rfl⟩
 have hne:((A.length:Int) != (B.length:Int))=false:=by rw[bne_eq_false_iff_eq];omega
 have HLEN:=ZZ hlen
 have HDT:Hid (A.take A.length=B.take A.length->D=true):=ZZ (fun h=>HD1.out (by
  rw[List.take_length,HLEN.out,List.take_length] at h
  exact h))
 have HDF:Hid (∀ k,k<A.length->A.getD k []≠B.getD k []->D=false):=ZZ (fun k hk h=>HD0.out (fun hs=>h (by rw[hs])))
 clear hlen HD1 HD0
 go_enter Tryz.func163,Tryz.ntmps163
 go_wp2
 go_loopw[17] (fun vi wr=>∃ k:Nat,vi=.int .i64 (k:Int)∧k<=A.length∧Hid (A.take k=B.take k)∧wr=w) (fun vi _=>A.length-(intOf vi).toNat)
 case atStart=>exact⟨0,rfl,Nat.zero_le _,rfl,rfl⟩
 case round=>
  obtain⟨k,rfl,hk,hP,rfl⟩:=hrel
  by_cases hlt:k<A.length
  case neg=>
   obtain rfl:k=A.length:=by omega
   have HT:=ZZ (HDT.out hP.out)
   go_wp2
   go_ret
   rw[HT.out]
   exact⟨rfl,rfl⟩
  have hlb:k<B.length:=by have:=HLEN.out;omega
  rcases HAA.out with h0 | ⟨c,off,rfl,hc⟩
  ·rw[h0] at hlt;simp at hlt
  rcases HAB.out with h0 | ⟨c',off',rfl,hc'⟩
  ·rw[h0] at hlb;simp at hlb
  obtain⟨x,hx,hxr⟩:=hc k hlt
  obtain⟨y,hy,hyr⟩:=hc' k hlb
  have hki:(k:Int)<(A.length:Int):=by omega
  have hkj:(k:Int)<(B.length:Int):=by omega
  have HNE:=ZZ (HDF.out k hlt)
  have HPN:Hid (A.getD k []=B.getD k []->A.take (k+1)=B.take (k+1)):=ZZ (fun h=>ZpM hlt hlb hP.out h)
  have HQ:=ZZ (HEQ.out x y _ _ hxr hyr)
  obtain⟨xa,xc,hxv⟩:∃ a c,x=.slice a (A.getD k []).length c:=by obtain⟨a,c,h,-⟩:=hxr;exact⟨a,c,h⟩
  obtain⟨ya,yc,hyv⟩:∃ a c,y=.slice a (B.getD k []).length c:=by obtain⟨a,c,h,-⟩:=hyr;exact⟨a,c,h⟩
  subst hxv hyv
  clear hc hc' hxr hyr HDT HDF HAA HAB HEQ
  generalize A.getD k []=X at *
  generalize B.getD k []=Y at *
  by_cases hxy:X=Y
  ·have HP1:=ZZ (HPN.out hxy)
   have HD:Hid (decide (X=Y)=true):=decide_eq_true hxy
   rw[HD.out] at HQ
   clear HNE HPN hxy
   go_wp2_with fail
   refine HQ.out.mono ?_
   rintro e W1 ⟨rfl,hw1⟩
   rw[hw1]
   clear hw1 W1
   go_wp2
   go_roundw
   case rel=>exact⟨k+1,by go_num,by omega,HP1,trivial⟩
   case measure=>simp[intOf];omega
  ·have HDD:=ZZ (HNE.out hxy)
   have HD:Hid (decide (X=Y)=false):=decide_eq_false hxy
   rw[HD.out] at HQ
   clear HNE HPN hxy
   go_wp2_with fail
   refine HQ.out.mono ?_
   rintro e W1 ⟨rfl,hw1⟩
   rw[hw1]
   clear hw1 W1
   go_wp2
   go_ret
   rw[HDD.out]
   exact⟨rfl,rfl⟩
theorem ZrJ (v:Value) (L:List (List UInt8)) (w:World) (hr:RdL w v L) (hlim:L.flatten.length<=1000000) (hn:L.length<=100000):
 Calls Tryz.prog 132 #[v] w fun e w'=>∃ v',e=.returned v'∧Own w' w.heap.size v' L.flatten∧Below w.heap.size w w':=by
 have HG:=ZZ (fun n W h=>ZsJ n W h)
 have HRL:=ZZ hr
 have HLE:Hid (∀ k,ZnR L k<=1000000):=fun k=>Nat.le_trans (Zwy L k) hlim
 have HFN:=ZZ (Zpr L)
 have HFS:=ZZ (Zpq L)
 have HFA:=ZZ (ZsL L)
 have HFL:=ZZ (ZsK L)
 obtain⟨F,hF⟩:∃ F,F=L.flatten:=⟨_,rfl⟩
 rw[<-hF]
 rw[<-hF] at HFA
 obtain⟨ao,cap,rfl,-,-,-,hao⟩:=hr
 have HAO:=ZZ hao
 clear hao hF hlim
 go_enter Tryz.func132,Tryz.ntmps132
 go_wp2
 go_loopw[3,11] (fun vs vi wr=>∃ (k:Nat),vs=.int .i64 (ZnR L k:Int)∧vi=.int .i64 (k:Int)∧k<=L.length∧wr=w) (fun _ vi _=>L.length-(intOf vi).toNat)
 case atStart=>exact⟨0,rfl,rfl,Nat.zero_le _,rfl⟩
 case round=>
  obtain⟨k,rfl,rfl,hk,hwr⟩:=hrel
  have hwr2:=hwr.symm
  subst hwr2
  clear hwr
  by_cases hlt:k<L.length
  ·rcases HAO.out with h0 | ⟨c,off,rfl,hc⟩
   ·rw[h0] at hlt;simp at hlt
   obtain⟨x,hx,hrx⟩:=hc k hlt
   have h1:=HLE.out (k+1)
   have h2:=HFN.out k hlt
   obtain⟨ax,cx,rfl,-⟩:=hrx
   have h3:¬ ((ZnR L k:Int)+((L.getD k []).length:Int)<0):=by omega
   have h4:(ZnR L k:Int)+((L.getD k []).length:Int)<=1000000:=by omega
   have H2:=ZZ h2
   clear hc h1 h2
   generalize ZnR L k=A at *
   generalize (L.getD k []).length=D at *
   go_wp2
   go_roundw
   case rel=>exact⟨k+1,by rw[H2.out],by go_num,by omega,trivial⟩
   case measure=>simp[intOf];omega
  ·have HGG:=ZZ (HG.out (ZnR L k) w (HLE.out k))
   generalize ZnR L k=A at *
   go_wp2_with fail
   refine HGG.out.mono ?_
   rintro e W1 ⟨v1,rfl,ho1,hb1⟩
   have HO1:=ZZ ho1
   have HB1:=ZZ hb1
   clear ho1 hb1 hk hlt
   go_wp2
   go_loopw[6,27] (fun vo vi w2=>∃ (j:Nat),vi=.int .i64 (j:Int)∧j<=L.length∧Hid (Own w2 w.heap.size vo (Zwx L j))∧Hid (Below w.heap.size w w2)) (fun _ vi _=>L.length-(intOf vi).toNat)
   case atStart=>exact⟨0,rfl,Nat.zero_le _,HO1,HB1⟩
   case round=>
    clear HO1 HB1
    obtain⟨j,rfl,hj,HO2,HB2⟩:=hrel
    by_cases hjl:j<L.length
    ·rcases HAO.out with h0 | ⟨c,off,rfl,hc⟩
     ·rw[h0] at hjl;simp at hjl
     obtain⟨x,hx0,hrx⟩:=hc j hjl
     have hx:=(HB2.out.cell (World.block_lt_of_cell? _ _ hx0)).trans hx0
     have HRX:=ZZ (hrx.below HB2.out zL)
     obtain⟨ax,cx,rfl,-⟩:=hrx
     have HLL:Hid ((Zwx L j).length+(L.getD j []).length<=70368744177664):=ZZ (by
      have h1:=HLE.out (j+1)
      have h2:=HFN.out j hjl
      rw[HFL.out]
      omega)
     have HSZ:=ZZ HB2.out.size
     have HN:=ZZ (HFS.out j hjl)
     clear hc hx0
     generalize L.getD j []=D at *
     generalize Zwx L j=P at *
     go_wp2_with(at_builtin;refine ZaD _ rfl _ _ rfl w.heap.size _ P rfl HO2.out _ D rfl HRX.out HLL.out HSZ.out ?_)
     intro v3 W3 ho3 hb3
     rw[<-HN.out] at ho3
     have HO3:=ZZ ho3
     have HB3:=ZZ (HB2.out.trans hb3)
     clear ho3 hb3
     go_wp2
     go_roundw
     case rel=>exact⟨j+1,by go_num,by omega,HO3,HB3⟩
     case measure=>simp[intOf];omega
    ·have HE:=ZZ (HFA.out j (by omega))
     rw[HE.out] at HO2
     go_wp2
     go_ret
     exact⟨_,rfl,HO2.out,HB2.out⟩
def Zoh (P:List (List UInt8)) (n c:Nat):Int:=if P.flatten.length≠n then 16 else if ¬ Zif P then 3 else if Zay 0 P.flatten≠c then 4 else 0
def Joined (w:World) (F:List UInt8) (er:Int) (e:Ending) (w':World):Prop:=
 ∃ v',e=.returned (.tuple #[v',.int .i64 er])∧Rd w' v' (if er=0 then F else[])∧Below w.heap.size w w'
theorem Zji.rdl {w':World} {v v':Value} {l:List UInt8} {xs:List Value} {L:List (List UInt8)} {B:Nat} (h:Zji v l xs L) (ho:w'.ownsRow B 53 1 v' L.length xs) (hr:Rd w' v l):RdL w' v' L:=by
 rcases ho.2 with ⟨hv,hn⟩ | ⟨g,cap,cur,hv,hb,hg,hnc,hcm,hcs,htake⟩
 ·have e:L=[]:=List.eq_nil_of_length_eq_zero hn
  subst e
  rw[hv]
  exact RdL.nil _
 ·refine⟨some ⟨g,0,none⟩,cap,hv,hnc,hcm,(fun e=>by cases e),.inr ⟨g,0,rfl,fun j hj=>?_⟩⟩
  obtain⟨x,h1,-,h3⟩:=h.2 j hj
  refine⟨x,?_,h3 w' hr⟩
  have:=World.ownsRow.cells ho (g:=g) (by rw[hv];rfl) j x h1
  rw[Addr.add_lit] at this
  exact this
theorem ZyQ (i:Int) (n c:Nat) (vp:Value) (P:List (List UInt8)) (w:World) (hp:RdL w vp P) (hlim:P.flatten.length<=100000) (hlim2:P.length<=100000):
 Calls Tryz.prog 117 #[.agg #[.int .i64 i,.int .i64 (n:Int),.int .u32 (c:Int)],vp] w fun e w'=>Joined w P.flatten (Zoh P n c) e w':=by
 have HB0:Hid (Below w.heap.size w (w.alloc (.cells #[.int .i64 i,.int .i64 (n:Int),.int .u32 (c:Int)] 148))):=ZZ ((Below.refl _ _).alloc zL _)
 have HX0:Hid (Bq (w.alloc (.cells #[.int .i64 i,.int .i64 (n:Int),.int .u32 (c:Int)] 148)) w.heap.size #[.int .i64 i,.int .i64 (n:Int),.int .u32 (c:Int)]):=ZZ (heap_alloc_new w _)
 have HCC:=ZZ (fun W (h:Below w.heap.size w W)=>ZrJ vp P W (hp.below h zL) (by omega) hlim2)
 have HCH:=ZZ (fun v1 W h=>ZmI v1 P.flatten W h hlim)
 have HEF:=ZZ (fun vb W h1 h2=>Zmb vp vb P (Zbb P.flatten) W h1 h2)
 have HSM:=ZZ (fun v1 W h=>ZnT v1 P.flatten W h)
 have HP:=ZZ hp
 have hdc:decide (P=Zbb P.flatten)=decide (Zif P):=decide_eq_decide.2 (ZvX P).symm
 rw[hdc] at HEF
 have HJ:Hid (Zoh P n c=if P.flatten.length≠n then 16 else if ¬ Zif P then 3 else if Zay 0 P.flatten≠c then 4 else 0):=ZZ rfl
 obtain⟨pa,pc,hpv⟩:∃ a c,vp=.slice a P.length c:=by obtain⟨a,c,h,-⟩:=hp;exact⟨a,c,h⟩
 subst hpv
 obtain⟨er,her⟩:∃ er,er=Zoh P n c:=⟨_,rfl⟩
 rw[<-her] at HJ ⊢
 obtain⟨co,hco⟩:∃ co,co=decide (Zif P):=⟨_,rfl⟩
 rw[<-hco] at HEF
 have HCO:=ZZ hco
 clear her hp hdc hco
 obtain⟨FL,hFL⟩:∃ FL,FL=P.flatten:=⟨_,rfl⟩
 rw[<-hFL] at HCC HCH HEF HSM HJ hlim ⊢
 have HPC:Hid (Zbb FL=Zbb FL):=ZZ rfl
 clear hFL
 generalize Zbb FL=PF at *
 generalize Zay 0 FL=cr at *
 obtain⟨ni,hni⟩:∃ ni:Int,ni=(n:Int):=⟨_,rfl⟩
 obtain⟨ci,hci⟩:∃ ci:Int,ci=(c:Int):=⟨_,rfl⟩
 obtain⟨cri,hcri⟩:∃ cri:Int,cri=(cr:Int):=⟨_,rfl⟩
 rw[<-hni,<-hci] at HB0 HX0 ⊢
 rw[<-hcri] at HSM
 have HNI:=ZZ hni
 have HCI:=ZZ hci
 have HCR:=ZZ hcri
 clear hni hci hcri
 go_enter Tryz.func117,Tryz.ntmps117
 go_wp2_with fail
 refine(HCC.out _ HB0.out).mono ?_
 rintro e W1 ⟨v1,rfl,ho1,hb1⟩
 have HB1:=ZZ (HB0.out.trans (hb1.mono HB0.out.size))
 have HX1:=ZZ (HX0.out.below hb1 zL)
 have HR1:=ZZ ho1.rd
 obtain⟨a1,c1,hv1⟩:∃ a c,v1=.slice a FL.length c:=by obtain⟨a,c,h,-⟩:=ho1.rd;exact⟨a,c,h⟩
 subst hv1
 obtain⟨p1,-⟩:=HX1.out.cell 1
 clear ho1 hb1 HCC HB0 HX0
 by_cases hl:FL.length=n
 case neg=>
  have HE:Hid (er=16):=ZZ (by rw[HJ.out,if_pos hl])
  have hl':((FL.length:Int) != ni)=true:=by rw[bne_iff_ne,HNI.out];omega
  clear hl HJ
  go_wp2
  go_ret2
  rw[HE.out]
  exact⟨_,rfl,Rd.nil _,HB1.out⟩
 have hl':((FL.length:Int) != ni)=false:=by rw[bne_eq_false_iff_eq,HNI.out];omega
 have HL:=ZZ hl
 clear hl
 go_wp2_with fail
 refine(HCH.out _ _ HR1.out).mono ?_
 rintro e W2 ⟨v2,xs,rfl,ho2,hv2,hb2⟩
 have HB2:=ZZ (HB1.out.trans (hb2.mono HB1.out.size))
 have HX2:=ZZ (HX1.out.below hb2 zL)
 have HR2:=ZZ (HR1.out.below hb2 zL)
 have HL2:=ZZ (hv2.rdl ho2 HR2.out)
 obtain⟨a2,c2,hvv⟩:∃ a c,v2=.slice a PF.length c:=by obtain⟨a,c,h,-⟩:=HL2.out;exact⟨a,c,h⟩
 subst hvv
 clear ho2 hb2 hv2 p1 HCH HX1 HR1 HB1
 go_wp2_with fail
 refine(HEF.out _ _ (HP.out.below HB2.out zL) HL2.out).mono ?_
 rintro e W3 ⟨rfl,hw3⟩
 rw[hw3]
 clear hw3 W3 HEF
 cases co with
 | false=>
  have HE:Hid (er=3):=ZZ (by rw[HJ.out,if_neg (fun h=>h HL.out),if_pos (of_decide_eq_false HCO.out.symm)])
  clear HJ
  go_wp2
  go_ret2
  rw[HE.out]
  exact⟨_,rfl,Rd.nil _,HB2.out⟩
 | true=>
  have HE:Hid (er=if cr≠c then 4 else 0):=ZZ (by rw[HJ.out,if_neg (fun h=>h HL.out),if_neg (fun h=>h (of_decide_eq_true HCO.out.symm))])
  have HSQ:=ZZ (HSM.out _ W2.drew (HR2.out.below ((Below.refl _ _).drew) zL))
  obtain⟨q2,-⟩:=HX2.out.cell 2
  go_upto_region 6 with fail
  go_cut[21] (fun x wc=>x=.bool (decide (cri≠ci))∧Hid (Rd wc (.slice a1 FL.length c1) FL)∧Hid (Below w.heap.size w wc))
  case first=>
   by_cases hcc:cri=ci
   ·have h1:(cri != ci)=false:=by rw[bne_eq_false_iff_eq];exact hcc
    have h2:decide (cri≠ci)=false:=decide_eq_false (fun h=>h hcc)
    have H2:=ZZ h2
    clear hcc h2
    go_region_held(fun w'=>w'.cell? ⟨w.heap.size,2,none⟩=some (.int .u32 ci)) (go_keep)
     (first
      | (go_at_call 137;refine HSQ.out.mono ?_;rintro e W3 ⟨rfl,hb3⟩;have hst:Below W2.heap.size W2 W3:=((Below.refl _ _).drew).trans hb3;have HB3:=ZZ (HB2.out.trans (hst.mono HB2.out.size));have HR3:=ZZ (HR2.out.below hst zL);obtain⟨r2,-⟩:=(HX2.out.below hst zL).cell 2;clear hb3 hst))
    all_goals
     go_wp2_with fail
     go_meet
     exact⟨by rw[H2.out],HR3,HB3⟩
   ·have h1:(cri != ci)=true:=by rw[bne_iff_ne];exact hcc
    have h2:decide (cri≠ci)=true:=decide_eq_true hcc
    have H2:=ZZ h2
    clear hcc h2
    go_region_held(fun w'=>w'.cell? ⟨w.heap.size,2,none⟩=some (.int .u32 ci)) (go_keep)
     (first
      | (go_at_call 137;refine HSQ.out.mono ?_;rintro e W3 ⟨rfl,hb3⟩;have hst:Below W2.heap.size W2 W3:=((Below.refl _ _).drew).trans hb3;have HB3:=ZZ (HB2.out.trans (hst.mono HB2.out.size));have HR3:=ZZ (HR2.out.below hst zL);obtain⟨r2,-⟩:=(HX2.out.below hst zL).cell 2;clear hb3 hst))
    all_goals
     go_wp2_with fail
     go_meet
     exact⟨by rw[H2.out],HR3,HB3⟩
  case rest=>
   obtain⟨WC,rfl⟩:∃ W,W=wc:=⟨_,rfl⟩
   obtain⟨rfl,HRC,HBC⟩:=hcut
   by_cases hcc:cr=c
   ·have HF:Hid (er=0):=ZZ (by rw[HE.out,if_neg (by omega)])
    have h2:decide (cri≠ci)=false:=decide_eq_false (by have:=HCI.out;have:=HCR.out;omega)
    rw[h2]
    clear h2 hcc HJ HE
    go_wp2
    go_ret2
    rw[HF.out]
    exact⟨_,rfl,HRC.out,HBC.out⟩
   ·have HF:Hid (er=4):=ZZ (by rw[HE.out,if_pos hcc])
    have h2:decide (cri≠ci)=true:=decide_eq_true (by have:=HCI.out;have:=HCR.out;omega)
    rw[h2]
    clear h2 hcc HJ HE
    go_wp2
    go_ret2
    rw[HF.out]
    exact⟨_,rfl,Rd.nil _,HBC.out⟩
theorem ZyR (b off:Nat) (L:List (List UInt8)) (cap:Nat) (hlc:L.length<=cap) (h1:1<=L.length):
 ∃ xa xc,(∀ W,(Instr.sliceAt 145 (.slice (some ⟨b,off,none⟩) L.length cap) (some (.int .i64 1)) none none).run Tryz.prog W=.ok (.slice xa (L.length-1) xc) W)∧∀ W,RdL W (.slice (some ⟨b,off,none⟩) L.length cap) L->RdL W (.slice xa (L.length-1) xc) (L.drop 1):=by
 by_cases hc:cap=1
 ·refine⟨some ⟨b,off,none⟩,cap-1,fun W=>?_,fun W h=>?_⟩
  ·have hL:L.length=1:=by omega
   simp[go_sem,hL,hc]
  ·have hL:L.drop 1=[]:=List.drop_eq_nil_of_le (by omega)
   obtain⟨ao',cap',hv,k1,k2,k3,k4⟩:=h
   simp only [Value.slice.injEq] at hv
   obtain⟨rfl,-,rfl⟩:=hv
   exact⟨_,_,by rw[List.length_drop],by rw[List.length_drop];omega,by omega,(fun e=>by cases e),.inl hL⟩
 ·refine⟨some ⟨b,off+1,none⟩,cap-1,fun W=>?_,fun W h=>?_⟩
  ·have h2:(1:Int)<=(L.length:Int):=by omega
   simp[go_sem,hc,h2]
  ·obtain⟨ao',cap',hv,k1,k2,k3,k4⟩:=h
   simp only [Value.slice.injEq] at hv
   obtain⟨rfl,-,rfl⟩:=hv
   refine⟨_,_,by rw[List.length_drop],by rw[List.length_drop];omega,by omega,(fun e=>by cases e),?_⟩
   rcases k4 with k4 | ⟨b',off',k5,k6⟩
   ·rw[k4] at h1
    simp at h1
   ·injection k5 with k5
    injection k5 with k5 k7 _
    subst k5 k7
    refine .inr ⟨b,off+1,rfl,fun j hj=>?_⟩
    rw[List.length_drop] at hj
    obtain⟨x,hx,hxr⟩:=k6 (j+1) (by omega)
    refine⟨x,by rw[show off+1+j=off+(j+1) by omega];exact hx,?_⟩
    have e:(L.drop 1).getD j []=L.getD (j+1) []:=by simp[List.getD]
    rw[e]
    exact hxr
theorem ZuF:Zmn []=(Zbi,16):=rfl
theorem ZrK (d:List UInt8) (P:List (List UInt8)):Zmn (d::P)=if(ZbT d).2.2.2≠0 then(Zbi,(ZbT d).2.2.2) else if Zoh P (ZbT d).2.1 (ZbT d).2.2.1≠0 then(Zbi,Zoh P (ZbT d).2.1 (ZbT d).2.2.1)
 else if(ZbQ P.flatten).2≠0 then(Zbi,(ZbQ P.flatten).2) else if Zgm ⟨((ZbT d).1:Nat),(ZbQ P.flatten).1.st,(ZbQ P.flatten).1.tab⟩ then(⟨((ZbT d).1:Nat),(ZbQ P.flatten).1.st,(ZbQ P.flatten).1.tab⟩,0) else(Zbi,1):=by
 unfold Zoh
 rw[Zmn]
 by_cases h0:(ZbT d).2.2.2≠0
 ·rw[if_pos h0,if_pos h0]
 rw[if_neg h0,if_neg h0]
 by_cases h1:P.flatten.length≠(ZbT d).2.1
 ·rw[if_pos h1,if_pos h1,if_pos (by decide)]
 rw[if_neg h1,if_neg h1]
 by_cases h2:¬ Zif P
 ·rw[if_pos h2,if_pos h2,if_pos (by decide)]
 rw[if_neg h2,if_neg h2]
 by_cases h3:Zay 0 P.flatten≠(ZbT d).2.2.1
 ·rw[if_pos h3,if_pos h3,if_pos (by decide)]
 rw[if_neg h3,if_neg h3,if_neg (show ¬ ((0:Int)≠0) by decide)]
theorem ZhL:∀ L:List (List UInt8),L.flatten.length+L.length<=(Zae L).length
 | []=>by simp[Zae]
 | x::t=>by
  have ih:=ZhL t
  have:=Zar x
  rw[ZaS,List.length_append,List.flatten_cons,List.length_append,List.length_cons]
  omega
theorem ZrL (v:Value) (b:List UInt8) (w:World) (hr:Rd w v b) (hlim:b.length<=100000):
 Calls Tryz.prog 77 #[v] w fun e w'=>Zfj w (Zqv b) e w':=by
 obtain⟨W0,hW0⟩:∃ W0,W0=w.alloc (.cells #[.int .i64 0,.int .i64 0,.slice none 0 0,.bool false,.int .i64 0,.slice none 0 0] 41):=⟨_,rfl⟩
 have HB0:Hid (Below w.heap.size w W0):=ZZ (by rw[hW0];exact(Below.refl _ _).alloc zL _)
 have HX0:Hid (Bn W0 w.heap.size #[.int .i64 0,.int .i64 0,.slice none 0 0,.bool false,.int .i64 0,.slice none 0 0]):=ZZ (by rw[hW0];exact heap_alloc_new w _)
 have HAL:=ZZ (ZAe v b W0 (hr.below HB0.out zL) (by omega))
 obtain⟨va,vc,hv⟩:∃ a c,v=.slice a b.length c:=by obtain⟨a,c,h,-⟩:=hr;exact⟨a,c,h⟩
 subst hv
 obtain⟨DN,hDN⟩:∃ DN,DN=Zqv b:=⟨_,rfl⟩
 rw[<-hDN]
 by_cases hw:(Zao b).2.2=0
 case neg=>
  have HD:Hid (DN=(Zbi,(((Zao b).2.2:Nat):Int))):=ZZ (by rw[hDN];unfold Zqv;rw[if_pos hw])
  have ha:Zzt b=([],(Zao b).2.2):=by unfold Zzt;rw[if_neg hw]
  rw[ha] at HAL
  dsimp only at HAL
  generalize (Zao b).2.2=er at *
  have her:((er:Int) != 0)=true:=by rw[bne_iff_ne];omega
  obtain⟨E,hE⟩:∃ E:Int,E=(er:Int):=⟨_,rfl⟩
  rw[<-hE] at HAL HD her
  clear ha hDN hw hE hr
  go_enter Tryz.func77,Tryz.ntmps77
  go_wp2_with fail
  rw[<-hW0]
  refine HAL.out.mono ?_
  rintro e W1 ⟨v1,rfl,hr1,hb1⟩
  have HX1:=ZZ (HX0.out.below hb1 zL)
  have HB1:=ZZ (HB0.out.trans (hb1.mono HB0.out.size))
  obtain⟨z0,y0⟩:=HX1.out.cell 0
  obtain⟨z1,y1⟩:=HX1.out.cell 1
  obtain⟨z2,y2⟩:=HX1.out.cell 2
  obtain⟨z3,y3⟩:=HX1.out.cell 3
  obtain⟨z4,y4⟩:=HX1.out.cell 4
  obtain⟨z5,y5⟩:=HX1.out.cell 5
  clear hb1 hr1
  go_wp2
  refine bodyPost_ret (v:=.tuple #[.agg #[.int .i64 0,.int .i64 0,.slice none 0 0,.bool false,.int .i64 0,.slice none 0 0],.int .i64 E]) (by simp[results,Tryz.results77,go_sem,z0,z1,z2,z3,z4,z5]) rfl ?_
  rw[HD.out]
  exact Zfj.zero _ (Zec HB1.out _ zL _ _ _ _ _ _)
 have HD:Hid (DN=Zmn (Zao b).1):=ZZ (by rw[hDN];unfold Zqv;rw[if_neg (fun h=>h hw)])
 have ha:Zzt b=((Zao b).1,0):=by unfold Zzt;rw[if_pos hw]
 have hfl:=ZhL (Zao b).1
 rw[(Zic b.length b zL hw).1] at hfl
 rw[ha] at HAL
 dsimp only at HAL
 generalize (Zao b).1=LS at *
 clear ha hDN hw hr
 cases LS with
 | nil=>
  rw[ZuF] at HD
  go_enter Tryz.func77,Tryz.ntmps77
  go_wp2_with fail
  rw[<-hW0]
  refine HAL.out.mono ?_
  rintro e W1 ⟨v1,rfl,hr1,hb1⟩
  obtain⟨a1,c1,hv1⟩:∃ a c,v1=.slice a 0 c:=by obtain⟨a,c,h,-⟩:=hr1;exact⟨a,c,h⟩
  subst hv1
  have HX1:=ZZ (HX0.out.below hb1 zL)
  have HB1:=ZZ (HB0.out.trans (hb1.mono HB0.out.size))
  obtain⟨z0,y0⟩:=HX1.out.cell 0
  obtain⟨z1,y1⟩:=HX1.out.cell 1
  obtain⟨z2,y2⟩:=HX1.out.cell 2
  obtain⟨z3,y3⟩:=HX1.out.cell 3
  obtain⟨z4,y4⟩:=HX1.out.cell 4
  obtain⟨z5,y5⟩:=HX1.out.cell 5
  clear hb1 hr1
  go_wp2
  refine bodyPost_ret (v:=.tuple #[.agg #[.int .i64 0,.int .i64 0,.slice none 0 0,.bool false,.int .i64 0,.slice none 0 0],.int .i64 16]) (by simp[results,Tryz.results77,go_sem,z0,z1,z2,z3,z4,z5]) rfl ?_
  rw[HD.out]
  exact Zfj.zero _ (Zec HB1.out _ zL _ _ _ _ _ _)
 | cons d P=>
  rw[ZrK] at HD
  have hPf:P.flatten.length<=100000:=by rw[List.flatten_cons,List.length_append,List.length_cons] at hfl;omega
  have hPl:P.length<=100000:=by rw[List.flatten_cons,List.length_append,List.length_cons] at hfl;omega
  have HLP:Hid ((d::P).length=P.length+1):=ZZ rfl
  have HRM:=ZZ (fun v1 W h=>Zjl v1 d W h)
  have HJN:=ZZ (fun i n c vp W h=>ZyQ i n c vp P W h hPf hPl)
  have HRW:=ZZ (fun v1 W h=>Zog v1 P.flatten W h hPf)
  have HMI:Hid (I64 ((ZbT d).1:Nat)):=ZZ (by
   have:(ZbT d).1<4611686018427387904:=by
    unfold ZbT
    split
    ·decide
    dsimp only
    split
    ·decide
    split
    ·decide
    split
    ·decide
    rcases Zax (d.drop (1+(Zab (d.drop 1)).2)) with h | h
    ·rw[h];exact(by decide:(0:Nat)<4611686018427387904)
    ·exact h.1
   exact⟨by omega,by omega⟩)
  unfold ZBb at HRM
  have HZR:Hid (∀ (W:World) (n:Int),Below w.heap.size w W->DN=(Zbi,n)->Zfj w DN (.returned (.tuple #[.agg #[.int .i64 0,.int .i64 0,.slice none 0 0,.bool false,.int .i64 0,.slice none 0 0],.int .i64 n])) ((((((W.setCell ⟨w.heap.size,0,none⟩ (.int .i64 0)).setCell ⟨w.heap.size,1,none⟩ (.int .i64 0)).setCell ⟨w.heap.size,2,none⟩ (.slice none 0 0)).setCell ⟨w.heap.size,3,none⟩ (.bool false)).setCell ⟨w.heap.size,4,none⟩ (.int .i64 0)).setCell ⟨w.heap.size,5,none⟩ (.slice none 0 0))):=ZZ (fun W n h e=>by
   rw[e]
   exact Zfj.zero _ (Zec h _ zL _ _ _ _ _ _))
  clear hfl
  generalize ZbT d=RM at *
  obtain⟨mi,mn,mc,me⟩:=RM
  dsimp only at HD HRM HMI
  have HCR:=ZZ (fun rb ro c h=>ZyR rb ro (d::P) c h (by simp))
  have hpi:(P.length:Int)<=100000:=by omega
  go_enter Tryz.func77,Tryz.ntmps77
  go_wp2_with fail
  rw[<-hW0]
  refine HAL.out.mono ?_
  rintro e W1 ⟨v1,rfl,hr1,hb1⟩
  have HX1:=ZZ (HX0.out.below hb1 zL)
  have HB1:=ZZ (HB0.out.trans (hb1.mono HB0.out.size))
  have HR1:=ZZ hr1
  obtain⟨a1,c1,hv1,hlc1,-,-,hao1⟩:=hr1
  subst hv1
  rcases hao1 with h0 | ⟨rb,ro,rfl,hc⟩
  ·cases h0
  obtain⟨x0,hx0,hxr⟩:=hc 0 (by simp)
  have hx0':W1.cell? ⟨rb,ro,none⟩=some x0:=hx0
  have hxr':Rd W1 x0 d:=hxr
  have HXR:=ZZ hxr'
  obtain⟨xa,xc,hxv⟩:∃ a c,x0=.slice a d.length c:=by obtain⟨a,c,h,-⟩:=hxr';exact⟨a,c,h⟩
  subst hxv
  obtain⟨ra,rc,hcr,hcv⟩:=HCR.out rb ro c1 hlc1
  rw[HLP.out,Nat.add_sub_cancel] at hcr
  have HCV:=ZZ (fun W h=>hcv W h)
  rw[HLP.out,Nat.add_sub_cancel,List.drop_one,List.tail_cons] at HCV
  rw[HLP.out] at HR1 ⊢
  have he0:((P.length:Int)+1 == 0)=false:=beq_eq_false_iff_ne.2 (by omega)
  have hp0:(0:Int)<(P.length:Int)+1:=by omega
  clear hb1 hc hx0 hxr hcv HAL hlc1 HCR hxr' hW0 HX0 HB0
  go_wp2_with fail
  refine(HRM.out _ _ HXR.out).mono ?_
  rintro e W2 ⟨rfl,hb2⟩
  obtain⟨W3,hW3⟩:∃ W3,W3=W2.alloc (.cells #[.int .i64 (mi:Int),.int .i64 (mn:Int),.int .u32 (mc:Int)] 148):=⟨_,rfl⟩
  have HB23:Hid (Below W2.heap.size W2 W3):=ZZ (by rw[hW3];exact(Below.refl _ _).alloc zL _)
  have HM3:Hid (Bq W3 W2.heap.size #[.int .i64 (mi:Int),.int .i64 (mn:Int),.int .u32 (mc:Int)]):=ZZ (by rw[hW3];exact heap_alloc_new W2 _)
  have HX3:=ZZ ((HX1.out.below hb2 zL).below HB23.out zL)
  have HB3:=ZZ ((HB1.out.trans (hb2.mono HB1.out.size)).trans (HB23.out.mono (Nat.le_trans HB1.out.size hb2.size)))
  have HR3:=ZZ ((HR1.out.below hb2 zL).below HB23.out zL)
  go_upto_region 7 with fail
  rw[<-hW3]
  obtain⟨QM,hQM⟩:∃ QM,QM=W2.heap.size:=⟨_,rfl⟩
  rw[<-hQM] at HM3 ⊢
  clear hW3 hQM hb2 hx0' HX1 HB1 HR1 HRM HXR HB23
  by_cases hme:me=0
  case neg=>
   have hme':(me != 0)=true:=by rw[bne_iff_ne];exact hme
   have HF:Hid (DN=(Zbi,me)):=ZZ (by rw[HD.out,if_pos hme])
   obtain⟨z0,y0⟩:=HX3.out.cell 0
   obtain⟨z1,y1⟩:=HX3.out.cell 1
   obtain⟨z2,y2⟩:=HX3.out.cell 2
   obtain⟨z3,y3⟩:=HX3.out.cell 3
   obtain⟨z4,y4⟩:=HX3.out.cell 4
   obtain⟨z5,y5⟩:=HX3.out.cell 5
   clear hme
   go_wp2
   refine bodyPost_ret (v:=.tuple #[.agg #[.int .i64 0,.int .i64 0,.slice none 0 0,.bool false,.int .i64 0,.slice none 0 0],.int .i64 me]) (by simp[results,Tryz.results77,go_sem,z0,z1,z2,z3,z4,z5]) rfl ?_
   exact HZR.out _ _ HB3.out HF.out
  have hme':(me != 0)=false:=by rw[bne_eq_false_iff_eq];exact hme
  have HD2:Hid (DN=if Zoh P mn mc≠0 then(Zbi,Zoh P mn mc) else if(ZbQ P.flatten).2≠0 then(Zbi,(ZbQ P.flatten).2) else if Zgm ⟨(mi:Nat),(ZbQ P.flatten).1.st,(ZbQ P.flatten).1.tab⟩ then(⟨(mi:Nat),(ZbQ P.flatten).1.st,(ZbQ P.flatten).1.tab⟩,0) else(Zbi,1)):=ZZ (by rw[HD.out,if_neg (fun h=>h hme)])
  have HJQ:=ZZ (fun W h=>HJN.out (mi:Int) mn mc (.slice ra P.length rc) W h)
  obtain⟨je,hje⟩:∃ je,je=Zoh P mn mc:=⟨_,rfl⟩
  rw[<-hje] at HD2 HJQ
  unfold Joined at HJQ
  clear hme hje HD HJN
  generalize P.flatten=FL at *
  obtain⟨RL,hRL⟩:∃ RL,RL=if je=0 then FL else[]:=⟨_,rfl⟩
  rw[<-hRL] at HJQ
  have HRL:=ZZ hRL
  clear hRL
  have HKA:Hid (∀ W,Below W3.heap.size W3 W->W.cell? ⟨QM,0,none⟩=some (.int .i64 (mi:Int))∧W.cell? ⟨QM,1,none⟩=some (.int .i64 (mn:Int))∧W.cell? ⟨QM,2,none⟩=some (.int .u32 (mc:Int))):=ZZ (fun W h=>by
   have hx:=HM3.out.below h zL
   exact⟨(hx.cell 0).1,(hx.cell 1).1,(hx.cell 2).1⟩)
  have HBD:Hid (Below W3.heap.size W3 W3.drew):=ZZ ((Below.refl _ _).drew)
  go_upto_region 9 with fail
  go_cut[5,7] (fun x5 x7 wc=>∃ a c,x5=.int .i64 je∧x7=.slice a RL.length c∧Hid (Rd wc (.slice a RL.length c) RL)∧Hid (Below W3.heap.size W3 wc))
  case first=>
   go_region_held(fun w'=>w'.cell? ⟨QM,0,none⟩=some (.int .i64 (mi:Int))∧w'.cell? ⟨QM,1,none⟩=some (.int .i64 (mn:Int))∧w'.cell? ⟨QM,2,none⟩=some (.int .u32 (mc:Int))) (first | (with_reducible exact HKA.out _ HBD.out) | (with_reducible exact HKA.out _ hbk4))
    (first
     | (go_at_call 117;refine(HJQ.out W3.drew (HCV.out _ (HR3.out.below HBD.out zL))).mono ?_;rintro e W4 ⟨v4,rfl,hr4,hb4⟩;have hbk4:Below W3.heap.size W3 W4:=HBD.out.trans hb4;have HR4:=ZZ hr4;obtain⟨a4,c4,hv4⟩:∃ a c,v4=.slice a RL.length c:=(by obtain⟨a,c,h,-⟩:=hr4;exact⟨a,c,h⟩);subst hv4;clear hr4 hb4))
   all_goals
    go_wp2_with fail
    go_meet
    exact⟨a4,c4,rfl,rfl,HR4,ZZ hbk4⟩
  case rest=>
   obtain⟨WC,rfl⟩:∃ W,W=wc:=⟨_,rfl⟩
   obtain⟨a4,c4,rfl,rfl,HR4,HB4⟩:=hcut
   have HX4:=ZZ (HX3.out.below HB4.out zL)
   have HM4:=ZZ (HM3.out.below HB4.out zL)
   have HBW4:=ZZ (HB3.out.trans (HB4.out.mono HB3.out.size))
   clear HX3 HM3 HB3 HR3 HB4 HKA HBD HJQ HCV hcr
   by_cases hj0:je=0
   case neg=>
    have hj':(je != 0)=true:=by rw[bne_iff_ne];exact hj0
    have HF:Hid (DN=(Zbi,je)):=ZZ (by rw[HD2.out,if_pos hj0])
    obtain⟨z0,y0⟩:=HX4.out.cell 0
    obtain⟨z1,y1⟩:=HX4.out.cell 1
    obtain⟨z2,y2⟩:=HX4.out.cell 2
    obtain⟨z3,y3⟩:=HX4.out.cell 3
    obtain⟨z4,y4⟩:=HX4.out.cell 4
    obtain⟨z5,y5⟩:=HX4.out.cell 5
    clear hj0
    go_wp2
    refine bodyPost_ret (v:=.tuple #[.agg #[.int .i64 0,.int .i64 0,.slice none 0 0,.bool false,.int .i64 0,.slice none 0 0],.int .i64 je]) (by simp[results,Tryz.results77,go_sem,z0,z1,z2,z3,z4,z5]) rfl ?_
    exact HZR.out _ _ HBW4.out HF.out
   have hj':(je != 0)=false:=by rw[bne_eq_false_iff_eq];exact hj0
   have hRF:RL=FL:=by rw[HRL.out,if_pos hj0]
   subst hRF
   have HD3:Hid (DN=if(ZbQ RL).2≠0 then(Zbi,(ZbQ RL).2) else if Zgm ⟨(mi:Nat),(ZbQ RL).1.st,(ZbQ RL).1.tab⟩ then(⟨(mi:Nat),(ZbQ RL).1.st,(ZbQ RL).1.tab⟩,0) else(Zbi,1)):=ZZ (by rw[HD2.out,if_neg (fun h=>h hj0)])
   have HRQ:=ZZ (HRW.out _ _ HR4.out)
   clear hj0 HD2 HRW
   go_wp2_with fail
   refine HRQ.out.mono ?_
   rintro e W5 ⟨vl,vt,S,t,ok,rfl,hl5,hk5,he5,ht5,hf5,hg5,hn5,hs5,hb5⟩
   obtain⟨la,lc,hlv⟩:∃ a c,vl=.slice a S.L.length c:=by obtain⟨a,c,h,-⟩:=hl5;exact⟨a,c,h⟩
   obtain⟨ta,tc,htv⟩:=ht5.shape
   subst hlv htv
   obtain⟨W6,hW6⟩:∃ W6,W6=W5.alloc (.cells #[.int .i64 S.kind,.slice la S.L.length lc,.bool S.shut,.int .i64 S.eng] 38):=⟨_,rfl⟩
   have HB56:Hid (Below W5.heap.size W5 W6):=ZZ (by rw[hW6];exact(Below.refl _ _).alloc zL _)
   have HS6:Hid (Bx W6 W5.heap.size #[.int .i64 S.kind,.slice la S.L.length lc,.bool S.shut,.int .i64 S.eng]):=ZZ (by rw[hW6];exact heap_alloc_new W5 _)
   have HX6:=ZZ ((HX4.out.below hb5 zL).below HB56.out zL)
   have HM6:=ZZ ((HM4.out.below hb5 zL).below HB56.out zL)
   have HBW5:=ZZ (HBW4.out.trans (hb5.mono HBW4.out.size))
   have HBW6:=ZZ (HBW5.out.trans (HB56.out.mono HBW5.out.size))
   have HL6:=ZZ (hl5.below HB56.out zL)
   have HT6:=ZZ (ht5.below HB56.out zL)
   have HKE:=ZZ (And.intro hk5 he5)
   have HFR:Hid ((∀ k,(Value.slice la S.L.length lc).ownBlock=some k->w.heap.size<k)∧(∀ k,(Value.slice ta t.length tc).ownBlock=some k->w.heap.size<k)):=ZZ ⟨fun k hk=>by have h1:=hf5 k hk;have h2:=HX4.out.lt;omega,fun k hk=>by have h1:=hg5 k hk;have h2:=HX4.out.lt;omega⟩
   have HN5:=ZZ hn5
   have HS5:=ZZ hs5
   go_upto_region 13 with fail
   rw[<-hW6]
   obtain⟨QS,hQS⟩:∃ QS,QS=W5.heap.size:=⟨_,rfl⟩
   rw[<-hQS] at HS6 ⊢
   clear hW6 hQS hl5 hk5 he5 ht5 hf5 hg5 hn5 hs5 hb5 HX4 HM4 HBW4 HRQ HR4 HB56 HBW5
   cases ok with
   | false=>
    have h3:=HN5.out rfl
    have HF:Hid (DN=(Zbi,3)):=ZZ (by rw[HD3.out,if_pos (by rw[h3];decide),h3])
    obtain⟨z0,y0⟩:=HX6.out.cell 0
    obtain⟨z1,y1⟩:=HX6.out.cell 1
    obtain⟨z2,y2⟩:=HX6.out.cell 2
    obtain⟨z3,y3⟩:=HX6.out.cell 3
    obtain⟨z4,y4⟩:=HX6.out.cell 4
    obtain⟨z5,y5⟩:=HX6.out.cell 5
    clear h3
    go_wp2
    refine bodyPost_ret (v:=.tuple #[.agg #[.int .i64 0,.int .i64 0,.slice none 0 0,.bool false,.int .i64 0,.slice none 0 0],.int .i64 3]) (by simp[results,Tryz.results77,go_sem,z0,z1,z2,z3,z4,z5]) rfl ?_
    exact HZR.out _ _ HBW6.out HF.out
   | true=>
    obtain⟨er,hrn,her⟩:=HS5.out rfl
    rw[hrn] at HD3
    dsimp only at HD3
    have HF:Hid (DN=if Zgm ⟨(mi:Nat),S,t⟩ then(⟨(mi:Nat),S,t⟩,0) else(Zbi,1)):=ZZ (by
     rcases her with h | ⟨h,h2⟩
     ·rw[HD3.out,if_neg (fun h'=>h' h)]
     ·rw[HD3.out,if_pos (by rw[h];decide),h,h2,if_neg (ZvZ _ _)])
    have HMY:=ZZ (fun W (h:Below W6.heap.size W6 W)=>ZsM (.agg #[.int .i64 ((mi:Nat):Int),.int .i64 S.kind,.slice la S.L.length lc,.bool S.shut,.int .i64 S.eng,.slice ta t.length tc]) ⟨(mi:Nat),S,t⟩ W ⟨_,_,rfl,HL6.out.below h zL,HKE.out.1,HKE.out.2,HT6.out.below h zL,HMI.out⟩)
    obtain⟨m0,-⟩:=HM6.out.cell 0
    obtain⟨s0,-⟩:=HS6.out.cell 0
    obtain⟨s1,-⟩:=HS6.out.cell 1
    obtain⟨s2,-⟩:=HS6.out.cell 2
    obtain⟨s3,-⟩:=HS6.out.cell 3
    have HA7:Hid (∀ X,Below W6.heap.size W6 (W6.alloc X)):=ZZ (fun X=>(Below.refl _ _).alloc zL X)
    have HQ7:Hid (∀ cs,Bn (W6.alloc (.cells cs 41)) W6.heap.size cs):=ZZ (fun cs=>heap_alloc_new W6 _)
    obtain⟨my,hmy⟩:∃ my,my=decide (Zgm ⟨((mi:Nat):Int),S,t⟩):=⟨_,rfl⟩
    rw[<-hmy] at HMY
    have HMM:=ZZ hmy
    clear hrn her HS5 HN5 HD3 hmy
    go_wp2_with fail
    refine(HMY.out _ (HA7.out _)).mono ?_
    rintro e W8 ⟨rfl,hb8⟩
    have HX8:=ZZ ((HX6.out.below (HA7.out _) zL).below hb8 zL)
    have HQ8:=ZZ ((HQ7.out _).below hb8 zL)
    have HB68:=ZZ ((HA7.out _).trans (hb8.mono (HA7.out _).size))
    have HBW8:=ZZ (HBW6.out.trans (HB68.out.mono HBW6.out.size))
    have HL8:=ZZ (HL6.out.below HB68.out zL)
    have HT8:=ZZ (HT6.out.below HB68.out zL)
    obtain⟨z0,y0⟩:=HX8.out.cell 0
    obtain⟨z1,y1⟩:=HX8.out.cell 1
    obtain⟨z2,y2⟩:=HX8.out.cell 2
    obtain⟨z3,y3⟩:=HX8.out.cell 3
    obtain⟨z4,y4⟩:=HX8.out.cell 4
    obtain⟨z5,y5⟩:=HX8.out.cell 5
    clear hb8 HMY m0 s0 s1 s2 s3 HX6 HA7 HQ7 HB68
    cases my with
    | false=>
     have HF2:Hid (DN=(Zbi,1)):=ZZ (by rw[HF.out,if_neg (of_decide_eq_false HMM.out.symm)])
     go_wp2
     refine bodyPost_ret (v:=.tuple #[.agg #[.int .i64 0,.int .i64 0,.slice none 0 0,.bool false,.int .i64 0,.slice none 0 0],.int .i64 1]) (by simp[results,Tryz.results77,go_sem,z0,z1,z2,z3,z4,z5]) rfl ?_
     exact HZR.out _ _ HBW8.out HF2.out
    | true=>
     have HF2:Hid (DN=(⟨((mi:Nat):Int),S,t⟩,0)):=ZZ (by rw[HF.out,if_pos (of_decide_eq_true HMM.out.symm)])
     obtain⟨q0,-⟩:=HQ8.out.cell 0
     obtain⟨q1,-⟩:=HQ8.out.cell 1
     obtain⟨q2,-⟩:=HQ8.out.cell 2
     obtain⟨q3,-⟩:=HQ8.out.cell 3
     obtain⟨q4,-⟩:=HQ8.out.cell 4
     obtain⟨q5,-⟩:=HQ8.out.cell 5
     go_wp2
     refine bodyPost_ret (v:=.tuple #[.agg #[.int .i64 (mi:Int),.int .i64 S.kind,.slice la S.L.length lc,.bool S.shut,.int .i64 S.eng,.slice ta t.length tc],.int .i64 0]) (by simp[results,Tryz.results77,go_sem,z0,z1,z2,z3,z4,z5]) rfl ?_
     rw[HF2.out]
     have hbt:=Zzr W8 w.heap.size (.int .i64 (mi:Int)) (.int .i64 S.kind) (.slice la S.L.length lc) (.bool S.shut) (.int .i64 S.eng) (.slice ta t.length tc)
     exact⟨_,_,rfl,HL8.out.but hbt (.inr fun k hk=>by have:=HFR.out.1 k hk;omega),HKE.out.1,HKE.out.2,HT8.out.but hbt (.inr fun k hk=>by have:=HFR.out.2 k hk;omega),HMI.out,(fun k hk=>Nat.le_of_lt (HFR.out.1 k hk)),(fun k hk=>Nat.le_of_lt (HFR.out.2 k hk)),ZnF HBW8.out _ zL _ _ _ _ _ _⟩
def Zde (m:List UInt8):Rec × Int × List UInt8 × Bool:=
 let m1:=behind (Zab m).2 m
 let m2:=behind (Zah m1).2 m1
 let m3:=behind (ZaB m2).2 m2
 (⟨0,(Zab m).1,0,(ZaB m2).1,zag (Zah m3).1⟩,zag (Zah m1).1,behind (Zah m3).2 m3,decide ((Zah m3).2≠0))
theorem ZhM (m:List UInt8):∃ m1 m2 m3,m1=behind (Zab m).2 m∧m2=behind (Zah m1).2 m1∧m3=behind (ZaB m2).2 m2∧Zde m=(⟨0,(Zab m).1,0,(ZaB m2).1,zag (Zah m3).1⟩,zag (Zah m1).1,behind (Zah m3).2 m3,decide ((Zah m3).2≠0)):=
 ⟨_,_,_,rfl,rfl,rfl,rfl⟩
theorem ZpN:(ZaB []).2=0:=by
 have:=Zsp []
 simpa using this
theorem Zfp {d:Nat} {l:List UInt8} (h:behind d l≠[]):d≠0:=fun e=>h (by rw[e];rfl)
theorem ZmS {l:List UInt8} (h:(Zah l).2≠0):l≠[]:=fun e=>h (by rw[e,Zeg])
theorem ZuG {l:List UInt8} (h:(Zab l).2≠0):l≠[]:=fun e=>h (by rw[e,ZfU])
theorem ZuH {l:List UInt8} (h:(ZaB l).2≠0):l≠[]:=fun e=>h (by rw[e];exact ZpN)
theorem Zlk {l:List UInt8} (h:(Zab l).2≠0):l=Lib.uvarint (Zab l).1++behind (Zab l).2 l:=by
 rw[Zbf h,ZbC h,List.take_append_drop]
theorem ZpO {l:List UInt8} (h:(Zah l).2≠0):l=Lib.uvarint (Zah l).1++behind (Zah l).2 l:=by
 rw[Zbf h,Zmk h,List.take_append_drop]
theorem ZwU {l:List UInt8} (h:(ZaB l).2≠0):l=ZaT (ZaB l).1++behind (ZaB l).2 l:=by
 rw[Zbf h,(ZjO h).2,List.take_append_drop]
theorem ZwV {m:List UInt8} (h:(Zde m).2.2.2=false):(Zde m).2.2.1=[]:=by
 unfold Zde at h ⊢
 simp only [decide_eq_false_iff_not,Decidable.not_not] at h ⊢
 rw[h]
 rfl
theorem take_nil:(Zde []).2.2.2=false:=by
 obtain⟨m1,m2,m3,h1,h2,h3,he⟩:=ZhM []
 have e1:m1=[]:=by rw[h1,ZfU];rfl
 have e2:m2=[]:=by rw[h2,e1,Zeg];rfl
 have e3:m3=[]:=by rw[h3,e2,ZpN];rfl
 rw[he,e3]
 show decide ((Zah []).2≠0)=false
 rw[Zeg]
 rfl
theorem ZuI {m:List UInt8} (h:(Zde m).2.2.2=true):
 m=Lib.uvarint (Zde m).1.proc.toNat++(Lib.uvarint (Lib.zigzag (Zde m).2.1)++(ZaT (Zde m).1.op++(Lib.uvarint (Lib.zigzag (Zde m).1.resp)++(Zde m).2.2.1))):=by
 obtain⟨m1,m2,m3,h1,h2,h3,he⟩:=ZhM m
 rw[he] at h ⊢
 simp only [decide_eq_true_eq] at h
 have n3:(ZaB m2).2≠0:=Zfp (l:=m2) (by rw[<-h3];exact ZmS h)
 have n2:(Zah m1).2≠0:=Zfp (l:=m1) (by rw[<-h2];exact ZuH n3)
 have n1:(Zab m).2≠0:=Zfp (l:=m) (by rw[<-h1];exact ZmS n2)
 have e4:=ZpO h
 have e3:=ZwU n3
 have e2:=ZpO n2
 have e1:=Zlk n1
 rw[<-h1] at e1
 rw[<-h2] at e2
 rw[<-h3] at e3
 show m=Lib.uvarint ((Zab m).1:Int).toNat++(Lib.uvarint (Lib.zigzag (zag (Zah m1).1))++(ZaT (ZaB m2).1++(Lib.uvarint (Lib.zigzag (zag (Zah m3).1))++behind (Zah m3).2 m3)))
 rw[Int.toNat_natCast,ZeH,ZeH]
 exact e1.trans (congrArg (Lib.uvarint (Zab m).1++·) (e2.trans (congrArg (Lib.uvarint (Zah m1).1++·) (e3.trans (congrArg (ZaT (ZaB m2).1++·) e4)))))
theorem ZwW (m:List UInt8):I64 (Zde m).1.proc∧I64 (Zde m).2.1∧ZzD (Zde m).1.op∧I64 (Zde m).1.resp∧(Zde m).1.idx=0∧(Zde m).1.seq=0∧0<=(Zde m).1.proc:=by
 have hz:∀ l:List UInt8,I64 (zag (Zah l).1):=fun l=>Zqs (Znh l)
 have hd:(Zab m).1<4611686018427387904:=by
  rcases Zax m with e | e
  ·rw[e];decide
  ·exact e.1
 have ho:∀ l:List UInt8,ZzD (ZaB l).1:=fun l=>by
  by_cases h:(ZaB l).2=0
  ·rw[Ztj h]
   exact⟨⟨by decide,by decide⟩,⟨by decide,by decide⟩,⟨by decide,by decide⟩⟩
  ·have hf:=(ZjO h).1
   have hi:=ZdD hf
   obtain⟨hc0,hc1,_⟩:=hf
   refine⟨?_,hi.1,hi.2⟩
   generalize (ZaB l).1.code=c at *
   exact⟨by omega,by omega⟩
 obtain⟨m1,m2,m3,h1,h2,h3,he⟩:=ZhM m
 have hp:I64 ((Zab m).1:Int):=⟨by omega,by omega⟩
 have hp0:(0:Int)<=((Zab m).1:Int):=by omega
 rw[he]
 exact⟨hp,hz m1,ho m2,hz m3,rfl,rfl,hp0⟩
theorem ZAk (m:List UInt8):(Zde m).2.2.1.length<=m.length:=by
 obtain⟨m1,m2,m3,h1,h2,h3,he⟩:=ZhM m
 rw[he]
 have l1:=ZbR (Zab m).2 m
 have l2:=ZbR (Zah m1).2 m1
 have l3:=ZbR (ZaB m2).2 m2
 have l4:=ZbR (Zah m3).2 m3
 rw[<-h1] at l1
 rw[<-h2] at l2
 rw[<-h3] at l3
 exact Nat.le_trans l4 (Nat.le_trans l3 (Nat.le_trans l2 l1))
theorem ZyS {pre:List Rec} (hl:∀ r ∈ pre,Zaz r) {r:Rec} (hr:Zaz r) (t:List UInt8):
 Zde (ZbH pre r++t)=(⟨0,r.proc,0,r.op,r.resp⟩,r.seq-Zav pre r.proc,t,true):=by
 have hd:=Zhm hl hr
 have hresp:=ZdS hr
 obtain⟨ho,_,_,hs0,hs1,hp0,hp1,_⟩:=id hr
 have E:ZbH pre r++t=Lib.uvarint r.proc.toNat++(Lib.uvarint (Lib.zigzag (r.seq-Zav pre r.proc))++(ZaT r.op++(Lib.uvarint (Lib.zigzag r.resp)++t))):=by
  unfold ZbH
  simp only [List.append_assoc]
 rw[E]
 have n3:(ZaT r.op).length≠0:=by
  unfold ZaT
  have:=Zhj r.op.code.toNat
  rw[List.length_append]
  omega
 have d1:=ZaQ r.proc.toNat (Lib.uvarint (Lib.zigzag (r.seq-Zav pre r.proc))++(ZaT r.op++(Lib.uvarint (Lib.zigzag r.resp)++t))) (by omega)
 have d2:=ZbL (Lib.zigzag (r.seq-Zav pre r.proc)) (ZaT r.op++(Lib.uvarint (Lib.zigzag r.resp)++t)) (ZeJ hd)
 have d3:=ZoA r.op ho (Lib.uvarint (Lib.zigzag r.resp)++t)
 have d4:=ZbL (Lib.zigzag r.resp) t (ZeJ hresp)
 unfold Zde
 simp only [d1,Zbf (Zhj _),List.drop_left,d2,d3,Zbf n3,d4,ZdO _ hd.1 hd.2,ZdO _ hresp.1 hresp.2]
 have hpn:((r.proc.toNat:Nat):Int)=r.proc:=by omega
 rw[hpn,decide_eq_true (Zhj _)]
theorem Zfq {w:World} {ao:Option Addr} {cap:Nat} {l:List UInt8} (hr:Rd w (.slice ao l.length cap) l) (d:Nat) (hd:d<=l.length):
 ∃ a1 c1,(∀ W,(Instr.sliceAt 53 (.slice ao l.length cap) (some (.int .i64 (d:Int))) none none).run Tryz.prog W=.ok (.slice a1 (l.drop d).length c1) W)∧Rd w (.slice a1 (l.drop d).length c1) (l.drop d):=by
 obtain⟨ao',cap',hv,hlc,r⟩:=id hr
 simp only [Value.slice.injEq] at hv
 obtain⟨rfl,_,rfl⟩:=hv
 have h2:=hr.mid d l.length cap hd zL hlc zL
 rw[List.take_of_length_le (by simp)] at h2
 obtain⟨a1,c1,e1,-⟩:=id h2
 rw[e1] at h2
 refine⟨a1,c1,fun W=>?_,h2⟩
 rw[run_sliceAt_slice W 53 _ _ _ _ ZaE,run_slice_l W 53 ao l.length cap ZaE .i64 (d:Int) (by omega) (by omega),ZbS,Zfg]
 show Result.ok (sliced ao ((d:Int)).toNat l.length cap 1) W=_
 rw[Int.toNat_natCast,e1]
def ZlI (w:World) (g:Nat) (L:List Rec):Prop:=w.heap[g]?=some (.cells (Zan L).toArray 63 (0,0))
theorem ZlI.lt {w:World} {g:Nat} {L:List Rec} (h:ZlI w g L):g<w.heap.size:=(Array.getElem?_eq_some_iff.1 h).1
theorem ZlI.below {w w':World} {g B:Nat} {L:List Rec} (h:ZlI w g L) (hb:Below B w w') (hB:w.heap.size<=B):ZlI w' g L:=(hb.block g (by have:=h.lt;omega)).trans h
theorem ZlI.cell {w:World} {g:Nat} {L:List Rec} (h:ZlI w g L) (i:Nat):w.cell? ⟨g,i,none⟩=(Zan L)[i]?∧w.frozen? ⟨g,i,none⟩=false:=
 ⟨(cell_of_row w g i _ _ _ h).trans (by simp),frozen_of_row w g i _ _ h⟩
theorem ZlI.at {w:World} {g:Nat} {L:List Rec} (h:ZlI w g L) {k:Nat} (hk:k<L.length):ZlO w g (k*7) (L.getD k Zaj):=by
 have hc:∀ j u,j<7->(Zei (L.getD k Zaj))[j]?=some u->w.cell? ⟨g,k*7+j,none⟩=some u:=fun j u hj hu=>(h.cell _).1.trans ((Zet L k j hk hj).trans hu)
 exact⟨hc 0 _ (by decide) rfl,hc 1 _ (by decide) rfl,hc 2 _ (by decide) rfl,hc 3 _ (by decide) rfl,hc 4 _ (by decide) rfl,hc 5 _ (by decide) rfl,hc 6 _ (by decide) rfl⟩
theorem ZiY:∀ (L:List Rec) (k j:Nat) (v:Value) (r:Rec),k<L.length->j<7->(Zei r).toList=(Zei (L.getD k Zaj)).toList.set j v->(Zan L).set (k*7+j) v=Zan (L.set k r)
 | s::t,0,j,v,r,_,hj,h=>by
  have e:((s::t).getD 0 Zaj)=s:=rfl
  rw[e] at h
  rw[Zan,Nat.zero_mul,Nat.zero_add,List.set_append_left _ _ (by simp[Zei];omega),<-h]
  rfl
 | s::t,k+1,j,v,r,hk,hj,h=>by
  have e:(k+1)*7+j=(Zei s).toList.length+(k*7+j):=by simp[Zei];omega
  have e2:((s::t).getD (k+1) Zaj)=t.getD k Zaj:=by simp[List.getD]
  rw[e2] at h
  rw[Zan,e,List.set_append_right _ _ (by omega),Nat.add_sub_cancel_left,ZiY t k j v r (by simpa using hk) hj h]
  rfl
theorem ZlI.set {w:World} {g:Nat} {L:List Rec} (h:ZlI w g L) {k:Nat} (hk:k<L.length) (j:Nat) (hj:j<7) (v:Value) (r:Rec) (hr:(Zei r).toList=(Zei (L.getD k Zaj)).toList.set j v):
 ZlI (w.setCell ⟨g,k*7+j,none⟩ v) g (L.set k r):=by
 have:=heap_setCell_same w g (k*7+j) _ _ v h
 unfold ZlI
 rw[<-ZiY L k j v r hk hj hr]
 simpa using this
theorem Zdk {L:List Rec} {k:Nat} (hk:k<L.length) (r:Rec):(L.set k r).getD k Zaj=r:=by simp[List.getD,hk]
theorem ZlI.seven {w:World} {g:Nat} {L:List Rec} (h:ZlI w g L) {k:Nat} (hk:k<L.length) (i p s c a b y:Int):
 ZlI (((((((w.setCell ⟨g,k*7,none⟩ (.int .i64 i)).setCell ⟨g,k*7+1,none⟩ (.int .i64 p)).setCell ⟨g,k*7+2,none⟩ (.int .i64 s)).setCell ⟨g,k*7+3,none⟩ (.int .i64 c)).setCell ⟨g,k*7+4,none⟩ (.int .i64 a)).setCell ⟨g,k*7+5,none⟩ (.int .i64 b)).setCell ⟨g,k*7+6,none⟩ (.int .i64 y)) g (L.set k ⟨i,p,s,⟨c,a,b⟩,y⟩):=by
 have hl:∀ r,k<(L.set k r).length:=fun r=>by simpa using hk
 generalize hR:L.getD k Zaj=R
 obtain⟨i0,p0,s0,⟨c0,a0,b0⟩,y0⟩:=R
 have h0:=h.set hk 0 (by decide) (.int .i64 i) ⟨i,p0,s0,⟨c0,a0,b0⟩,y0⟩ (by rw[hR];rfl)
 have h1:=h0.set (hl _) 1 (by decide) (.int .i64 p) ⟨i,p,s0,⟨c0,a0,b0⟩,y0⟩ (by rw[Zdk hk];rfl)
 rw[List.set_set] at h1
 have h2:=h1.set (hl _) 2 (by decide) (.int .i64 s) ⟨i,p,s,⟨c0,a0,b0⟩,y0⟩ (by rw[Zdk hk];rfl)
 rw[List.set_set] at h2
 have h3:=h2.set (hl _) 3 (by decide) (.int .i64 c) ⟨i,p,s,⟨c,a0,b0⟩,y0⟩ (by rw[Zdk hk];rfl)
 rw[List.set_set] at h3
 have h4:=h3.set (hl _) 4 (by decide) (.int .i64 a) ⟨i,p,s,⟨c,a,b0⟩,y0⟩ (by rw[Zdk hk];rfl)
 rw[List.set_set] at h4
 have h5:=h4.set (hl _) 5 (by decide) (.int .i64 b) ⟨i,p,s,⟨c,a,b⟩,y0⟩ (by rw[Zdk hk];rfl)
 rw[List.set_set] at h5
 have h6:=h5.set (hl _) 6 (by decide) (.int .i64 y) ⟨i,p,s,⟨c,a,b⟩,y⟩ (by rw[Zdk hk];rfl)
 rw[List.set_set] at h6
 exact h6
theorem ZlI.rd {w:World} {g:Nat} {L:List Rec} (h:ZlI w g L) (hw:∀ r ∈ L,ZfA r) (hm:L.length<=maxLen):RdR w (.slice (some ⟨g,0,none⟩) L.length L.length) L:=
 ⟨_,_,rfl,Nat.le_refl _,hm,(fun e=>by cases e),hw,.inr ⟨g,0,rfl,fun j hj=>by rw[Nat.zero_add];exact h.at hj⟩⟩
theorem ZhN:∀ n:Nat,Zan (List.replicate n Zaj)=List.replicate (n*7) (Value.int .i64 0)
 | 0=>rfl
 | n+1=>by
  have e:(n+1)*7=7+n*7:=by omega
  rw[List.replicate_succ,Zan,ZhN n,e,<-List.replicate_append_replicate]
  rfl
theorem Zoi (w:World) (n:Nat) (hn:n<=1000000):(Instr.makeSlice 29 (.int .i64 (n:Int)) (.int .i64 (n:Int))).run Tryz.prog w=.ok (.slice (some ⟨w.heap.size,0,none⟩) n n) (w.alloc (.cells (Zan (List.replicate n Zaj)).toArray 63)):=by
 obtain⟨i0,hi,hz0,hz1,hz2⟩:=info_parts Zge
 have h:=run_make (P:=Tryz.prog) w 29 63 i0 _ Tryz.underlying29 hi hz0 .i64 .i64 (n:Int) (n:Int) (by omega) (Int.le_refl _) (by rw[hz2];omega) (by omega)
 rw[Int.toNat_natCast,hz1] at h
 rw[h]
 congr 3
 apply Array.ext'
 rw[ZhN]
 apply List.ext_getElem?
 intro i
 show(madeCells #[Value.int .i64 0,.int .i64 0,.int .i64 0,.int .i64 0,.int .i64 0,.int .i64 0,.int .i64 0] (n*7)).toList[i]?=_
 by_cases hi:i<n*7
 ·have h7:i % 7<7:=Nat.mod_lt _ (by decide)
  have e:∀ j,j<7->(#[Value.int .i64 0,.int .i64 0,.int .i64 0,.int .i64 0,.int .i64 0,.int .i64 0,.int .i64 0]:Array Value)[j]! = .int .i64 0:=by
   intro j hj
   match j,hj with
   | 0,_ | 1,_ | 2,_ | 3,_ | 4,_ | 5,_ | 6,_=>rfl
  simp only [madeCells,Array.toList_map,Array.toList_range,List.getElem?_map,List.getElem?_range hi,Option.map_some,List.getElem?_replicate,if_pos hi]
  exact congrArg some (e (i % 7) h7)
 ·simp[madeCells,hi]
structure ZrM (b:List UInt8) (first count:Nat) (L:List Rec) (m:List UInt8) (t:Bool):Prop where
 chain:ZaZ first L
 ok:∀ r ∈ L,ZfA r
 sound:t=true->(∀ r ∈ L,Zaz r)->b=Lib.uvarint first++(Lib.uvarint count++(Zbq [] L++m))
 none:t=false->m=[]
 whole:∀ l',ZbD l'->Zdy l'=b->l'.length=count∧L=l'.take L.length∧m=Zbq (l'.take L.length) (l'.drop L.length)∧t=true∧(l'.headD Zaj).idx=first
def ZfW (first:Nat) (L:List Rec) (r:Rec) (d:Int):Rec:=⟨(first:Int)+L.length,r.proc,IntKind.i64.wrap (Zav L r.proc+d),r.op,r.resp⟩
theorem Zll (n:Int):I64 (IntKind.i64.wrap n):=by
 unfold I64
 rw[IntKind.wrap_i64]
 omega
theorem ZwX {a d:Int} (ha0:0<=a) (ha1:a<4611686018427387904) (hd:I64 d) (h0:0<=IntKind.i64.wrap (a+d)) (h1:IntKind.i64.wrap (a+d)<4611686018427387904):IntKind.i64.wrap (a+d)-a=d:=by
 obtain⟨d0,d1⟩:=hd
 rw[IntKind.wrap_i64] at *
 omega
theorem ZrM.step {b:List UInt8} {first count:Nat} {L:List Rec} {m:List UInt8} {t:Bool} (h:ZrM b first count L m t) (hf:first<4611686018427387904) (hlt:L.length<count) (hc:count<=256)
 {R:Rec} {d:Int} {m':List UInt8} {t':Bool} (hT:Zde m=(R,d,m',t')):
 ZrM b first count (L++[ZfW first L R d]) m' t':=by
 have hok:=ZwW m
 have hno:=@ZwV m
 have hth:=@ZuI m
 have hni:m=[]->t'=false:=fun e=>by
  have:=take_nil
  rw[<-e,hT] at this
  exact this
 rw[hT] at hok hno hth
 obtain⟨hp,hd,ho,hresp,-,-,hp0⟩:=hok
 refine⟨?_,?_,?_,hno,?_⟩
 ·exact(Ziu L first (ZfW first L R d)).2 ⟨h.chain,rfl⟩
 ·intro r hr
  rcases List.mem_append.1 hr with hr | hr
  ·exact h.ok r hr
  ·simp only [List.mem_singleton] at hr
   rw[hr]
   have hidx:I64 ((first:Int)+L.length):=⟨by omega,by omega⟩
   exact⟨hidx,hp,Zll _,ho,hresp⟩
 ·intro ht hfit
  have hm:m≠[]:=fun e=>by
   rw[hni e] at ht
   cases ht
  have htt:t=true:=by
   cases t with
   | true=>rfl
   | false=>exact absurd (h.none rfl) hm
  have hL:∀ r ∈ L,Zaz r:=fun r hr=>hfit r (by simp[hr])
  have hn:Zaz (ZfW first L R d):=hfit _ (by simp)
  have hb:=h.sound htt hL
  have hmt:=hth ht
  obtain⟨s0,s1⟩:=Zmo R.proc hL
  obtain⟨_,_,_,n0,n1,_⟩:=hn
  have hdiff:(ZfW first L R d).seq-Zav L (ZfW first L R d).proc=d:=ZwX s0 s1 hd n0 n1
  have he:Zbq [] (L++[ZfW first L R d])=Zbq [] L++ZbH L (ZfW first L R d):=by
   rw[Zkb]
   simp[Zbq]
  have h1:ZbH L (ZfW first L R d)++m'=m:=by
   unfold ZbH
   rw[hdiff]
   refine Eq.trans ?_ hmt.symm
   simp only [List.append_assoc]
   rfl
  rw[he,List.append_assoc,h1]
  exact hb
 ·intro l' hfl hbl
  obtain⟨w1,w2,w3,w4,w5⟩:=h.whole l' hfl hbl
  have hl:L.length<l'.length:=by omega
  have hfr:Zaz (l'.getD L.length Zaj):=hfl.2.2.1 _ (by simp[List.getD,hl])
  have hLf:∀ r ∈ L,Zaz r:=fun r hr=>by
   rw[w2] at hr
   exact hfl.2.2.1 r (List.mem_of_mem_take hr)
  have ed:l'.drop L.length=l'.getD L.length Zaj::l'.drop (L.length+1):=by
   rw[List.drop_eq_getElem_cons hl]
   simp[List.getD,hl]
  have hm:m=ZbH L (l'.getD L.length Zaj)++Zbq (L++[l'.getD L.length Zaj]) (l'.drop (L.length+1)):=by
   rw[w3,ed,Zbq,<-w2]
  have ht:=ZyS hLf hfr (Zbq (L++[l'.getD L.length Zaj]) (l'.drop (L.length+1)))
  rw[<-hm,hT] at ht
  have hidx:=Zpy l' _ _ hfl.2.2.2 hl
  rw[w5] at hidx
  have el:(L++[ZfW first L R d]).length=L.length+1:=by simp
  rw[el,Zit hl]
  rw[<-w2]
  generalize l'.getD L.length Zaj=r at *
  simp only [Prod.mk.injEq] at ht
  obtain⟨ht1,ht2,ht3,ht4⟩:=ht
  have hnext:ZfW first L R d=r:=by
   obtain⟨_,_,_,q0,q1,_⟩:=hfr
   unfold ZfW
   rw[ht1,ht2]
   have e1:Zav L r.proc+(r.seq-Zav L r.proc)=r.seq:=by omega
   show(⟨_,r.proc,IntKind.i64.wrap (Zav L r.proc+(r.seq-Zav L r.proc)),r.op,r.resp⟩:Rec)=_
   rw[e1,Zqx ⟨by omega,by omega⟩,<-hidx]
  rw[hnext]
  exact⟨w1,rfl,ht3,ht4,w5⟩
theorem ZrM.done {b:List UInt8} {first:Nat} {L:List Rec} {m:List UInt8} {t:Bool} (h:ZrM b first L.length L m t):
 (t=true∧m=[]∧ZbD L->Zdy L=b)∧(¬ (t=true∧m=[]∧ZbD L)->∀ l',ZbD l'->Zdy l'≠b):=by
 constructor
 ·rintro⟨ht,hm,hf⟩
  have hb:=h.sound ht hf.2.2.1
  rw[hm,List.append_nil] at hb
  rw[hb]
  unfold Zdy
  have hc:=h.chain
  have h1:=hf.1
  match L,h1,hc with
  | r::u,_,hc=>
   have e:r.idx=(first:Int):=hc.1
   show Lib.uvarint r.idx.toNat++_=_
   rw[e,Int.toNat_natCast]
 ·intro hn l' hfl hbl
  obtain⟨w1,w2,w3,w4,w5⟩:=h.whole l' hfl hbl
  rw[<-w1,List.take_length] at w2
  refine hn ⟨w4,?_,by rw[w2];exact hfl⟩
  rw[w3,<-w1,List.drop_length]
  rfl
end Go.Proofs.YtfiffndhehkapaaGreatDoor
