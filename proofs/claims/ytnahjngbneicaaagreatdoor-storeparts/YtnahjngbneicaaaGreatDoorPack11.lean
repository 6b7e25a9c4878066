import Derived.Test.YtnahjngbneicaaaGreatDoorPack10
import Derived.Test.YtnahjngbneicaaaGreatDoorPack4
namespace Go.Proofs.YtnahjngbneicaaaGreatDoor
set_option maxHeartbeats 4000000
set_option maxRecDepth 100000
open Go.RowKit
def Zsz (w:World) (b:List UInt8) (e:Ending) (w':World):Prop:=
 ∃ (vl vt:Value) (S:St) (t:List Ent) (ok:Bool),e=.returned (.tuple #[.agg #[.int .i64 S.kind,vl,.bool S.shut,.int .i64 S.eng],vt,.bool ok])∧RdI w' vl S.L∧I64 S.kind∧I64 S.eng∧RdE w' vt t∧(∀ k,vl.ownBlock=some k->w.heap.size<=k)∧(∀ k,vt.ownBlock=some k->w.heap.size<=k)∧
  (ok=false->(ZbD b).2=3)∧(ok=true->∃ er,ZbD b=(⟨0,S,t⟩,er)∧(er=0∨(er=1∧S=ZeT)))∧Below w.heap.size w w'
theorem Zsz.none {w w':World} {b:List UInt8} (h:(ZbD b).2=3) (hb:Below w.heap.size w w'):Zsz w b (.returned (.tuple #[.agg #[.int .i64 0,.slice none 0 0,.bool false,.int .i64 0],.slice none 0 0,.bool false])) w':=
 ⟨_,_,ZeT,[],false,rfl,RdI.nil _,(Zaj (by decide) (by decide):I64 0),(Zaj (by decide) (by decide):I64 0),RdE.nil _,(fun k hk=>by simp[Value.ownBlock] at hk),(fun k hk=>by simp[Value.ownBlock] at hk),(fun _=>h),(fun h=>by cases h),hb⟩
theorem Zww (ao:Option Addr) (l:List UInt8) (cap:Nat) (hlc:l.length<=cap) (j:Nat) (hj:j<=l.length):
 ∃ xa xn xc,(∀ W,(Instr.sliceAt 53 (.slice ao l.length cap) none (some (.int .i64 (j:Int))) (some (.int .i64 (j:Int)))).run Tryz.prog W=.ok (.slice xa xn xc) W)∧∀ W,Rd W (.slice ao l.length cap) l->Rd W (.slice xa xn xc) (l.take j):=by
 have hsl:∃ xa xn xc,sliced ao 0 j j 1=.slice xa xn xc:=by
  unfold sliced
  exact⟨_,_,_,rfl⟩
 obtain⟨xa,xn,xc,hsl⟩:=hsl
 refine⟨xa,xn,xc,fun W=>?_,fun W h=>?_⟩
 ·rw[run_sliceAt_slice W 53 _ _ _ _ ZaA,run_slice_hm W 53 ao l.length cap ZaA .i64 .i64 (j:Int) (j:Int) (by omega) (by omega) (by omega),ZbG,Zev]
  simp only [Int.toNat_natCast]
  rw[<-hsl]
  rfl
 ·rw[<-hsl]
  have h2:=h.mid 0 j j (Nat.zero_le _) hj zL (by omega)
  rw[List.drop_zero,Nat.sub_zero] at h2
  exact h2
def four (w:World) (R:Nat) (x0 x1 x2 x3:Value):World:=(((w.setCell ⟨R,0,none⟩ x0).setCell ⟨R,1,none⟩ x1).setCell ⟨R,2,none⟩ x2).setCell ⟨R,3,none⟩ x3
theorem Zfs {C:Nat} {w0 w:World} (h:Below C w0 w) (R:Nat) (hR:C<=R) (x0 x1 x2 x3:Value):Below C w0 ((((w.setCell ⟨R,0,none⟩ x0).setCell ⟨R,1,none⟩ x1).setCell ⟨R,2,none⟩ x2).setCell ⟨R,3,none⟩ x3):=
 (((h.setCell hR _).setCell hR _).setCell hR _).setCell hR _
theorem Zwx (w:World) (R:Nat) (x0 x1 x2 x3:Value):But R R w ((((w.setCell ⟨R,0,none⟩ x0).setCell ⟨R,1,none⟩ x1).setCell ⟨R,2,none⟩ x2).setCell ⟨R,3,none⟩ x3):=
 ((((But.refl R R w).set _ _ (.inl rfl) _).set _ _ (.inl rfl) _).set _ _ (.inl rfl) _).set _ _ (.inl rfl) _
theorem Zmy (v:Value) (b:List UInt8) (w:World) (hr:Rd w v b) (hlim:b.length<=100000):
 Calls Tryz.prog 117 #[v] w fun e w'=>Zsz w b e w':=by
 obtain⟨W0,hW0⟩:∃ W0,W0=((w.alloc (.cells #[.int .i64 0,.slice none 0 0,.bool false,.int .i64 0] 38)).alloc (.cells #[.int .i64 0] 3)).alloc (.cells #[.pointer (some ⟨w.heap.size+1,0,none⟩)] 208):=⟨_,rfl⟩
 have h3:=ZjX w (.cells #[.int .i64 0,.slice none 0 0,.bool false,.int .i64 0] 38) (.cells #[.int .i64 0] 3) (.cells #[.pointer (some ⟨w.heap.size+1,0,none⟩)] 208)
 rw[<-hW0] at h3
 obtain⟨hA,hB,hC⟩:=h3
 have HB0:Hid (Below w.heap.size w W0):=ZZ (by rw[hW0];exact(((Below.refl _ _).alloc zL _).alloc (by simp) _).alloc (by simp;omega) _)
 have hEA:Bx W0 w.heap.size #[.int .i64 0,.slice none 0 0,.bool false,.int .i64 0]:=hA
 have HGN:=ZZ (ZcH (w.heap.size+1+1) [(w.heap.size+1,0)] v b W0 (hr.below HB0.out zL) (fun p hp=>by
  rw[List.mem_singleton.1 hp]
  exact⟨⟨⟨0,cell_of_row W0 (w.heap.size+1) 0 _ _ _ hB⟩,frozen_of_row W0 (w.heap.size+1) 0 _ _ hB⟩,by simp⟩) (by simp) hC 1 rfl)
 have HSC:Hid (∀ n:Nat,(W0.setCell ⟨w.heap.size+1,0,none⟩ (.int .i64 (n:Int))).cell? ⟨w.heap.size+1,0,none⟩=some (.int .i64 (n:Int))):=ZZ (fun n=>World.cell?_setCell_same _ _ _ (cell_of_row W0 (w.heap.size+1) 0 _ _ _ hB))
 have HSB:Hid (∀ ns,Below w.heap.size w (ZbK W0 ([(w.heap.size+1,0)].take (List.length ns)) ns)):=ZZ (fun ns=>ZdD W0 _ ns _ w (fun p hp=>by
  have:=List.mem_of_mem_take hp
  rw[List.mem_singleton.1 this]
  simp) HB0.out)
 have HSA:Hid (∀ ns,Bx (ZbK W0 ([(w.heap.size+1,0)].take (List.length ns)) ns) w.heap.size #[.int .i64 0,.slice none 0 0,.bool false,.int .i64 0]):=ZZ (fun ns=>(ZdC W0 _ ns _ (fun p hp=>by
  have:=List.mem_of_mem_take hp
  rw[List.mem_singleton.1 this]
  simp)).trans hEA)
 have HG1:=ZZ (fun ns l h=>ZjY (b:=b) (ns:=ns) (l:=l) h)
 have HG0:=ZZ (fun h=>ZjZ (b:=b) h)
 have HRN:Hid (ZbD b=if(Zab b).2=0∨b.length<(Zab b).2+(Zab b).1 then(Zbb,3) else if(ZgW ((b.drop (Zab b).2).take (Zab b).1)).2=3 then(Zbb,3) else match Zeh (b.drop ((Zab b).2+(Zab b).1)) with
  | none=>(Zbb,3)
  | some t=>(⟨0,(ZgW ((b.drop (Zab b).2).take (Zab b).1)).1,t⟩,(ZgW ((b.drop (Zab b).2).take (Zab b).1)).2)):=ZZ rfl
 have hd:=ZbQ b
 have hdn:(Zab b).1<4611686018427387904:=by
  rcases Zau b with h | h
  ·rw[h];decide
  ·exact h.1
 have HDS:=ZZ (fun v1 l W h h2=>Zkb v1 l W h h2)
 have HRT:=ZZ (fun v1 l W h h2=>Zmw v1 l W h h2)
 have HLEN:Hid ([(w.heap.size+1,0)].length=1):=ZZ rfl
 rw[HLEN.out] at HGN
 generalize ZbY 1 b=GL at *
 have HRW:=ZZ hr
 obtain⟨va,vc,hv⟩:∃ a c,v=.slice a b.length c:=by obtain⟨a,c,h,-⟩:=hr;exact⟨a,c,h⟩
 subst hv
 clear hr hA hB hC hEA HLEN
 go_enter Tryz.func117,Tryz.ntmps117
 go_wp2_with fail
 rw[<-hW0]
 refine HGN.out.mono ?_
 rintro e W1 ⟨v1,l,ns,rfl,hr1,hn1,hs1,hlt1,hle1,hal1⟩
 have HB1:Hid (Below w.heap.size w W1):=ZZ ((HSB.out ns).trans (hal1.below _))
 have HA1:Hid (Bx W1 w.heap.size #[.int .i64 0,.slice none 0 0,.bool false,.int .i64 0]):=ZZ ((HSA.out ns).below (hal1.below (ZbK W0 ([(w.heap.size+1,0)].take ns.length) ns).heap.size) zL)
 have HV1:=ZZ hr1
 have HR1:=ZZ (hr1 W1 (HRW.out.below HB1.out zL))
 obtain⟨a1,c1,hv1⟩:∃ a c,v1=.slice a l.length c:=by obtain⟨a,c,h,-⟩:=HR1.out;exact⟨a,c,h⟩
 subst hv1
 obtain⟨z0,y0⟩:=HA1.out.cell 0
 obtain⟨z1,y1⟩:=HA1.out.cell 1
 obtain⟨z2,y2⟩:=HA1.out.cell 2
 obtain⟨z3,y3⟩:=HA1.out.cell 3
 clear HGN HSB HB0 hW0 HSA
 cases GL with
 | none=>
  have HF:Hid ((ZbD b).2=3):=ZZ (by rw[HRN.out,if_pos (.inl (HG0.out rfl))])
  clear hn1 hs1 hlt1 hle1 hal1 HRN HG0 HG1
  go_wp2
  refine bodyPost_ret (v:=.tuple #[.agg #[.int .i64 0,.slice none 0 0,.bool false,.int .i64 0],.slice none 0 0,.bool false]) (by simp[results,Tryz.results117,go_sem,z0,z1,z2,z3]) rfl ?_
  exact Zsz.none HF.out (Zfs HB1.out _ zL _ _ _ _)
 | some gp=>
  have:=hs1 gp rfl
  subst this
  obtain⟨g1,g2,g3⟩:=HG1.out _ _ rfl
  subst g2
  have hll:l.length=b.length-(Zab b).2:=by rw[g3,List.length_drop]
  have hcell:W1.cell? ⟨w.heap.size+1,0,none⟩=some (.int .i64 ((Zab b).1:Int)):=by
   rw[hal1.cell]
   exact HSC.out _
  rw[<-List.drop_drop,<-g3] at HRN
  generalize (Zab b).1=n at *
  generalize (Zab b).2=k at *
  clear hn1 hs1 hlt1 hle1 hal1 HG0 HG1 g3 HSC
  by_cases hbig:l.length<n
  ·have HF:Hid ((ZbD b).2=3):=ZZ (by rw[HRN.out,if_pos (.inr (by omega))])
   have hbi:(l.length:Int)<(n:Int):=by omega
   clear hll HRN
   go_wp2
   refine bodyPost_ret (v:=.tuple #[.agg #[.int .i64 0,.slice none 0 0,.bool false,.int .i64 0],.slice none 0 0,.bool false]) (by simp[results,Tryz.results117,go_sem,z0,z1,z2,z3]) rfl ?_
   exact Zsz.none HF.out (Zfs HB1.out _ zL _ _ _ _)
  have hbi:¬ (l.length:Int)<(n:Int):=by omega
  have hcap:l.length<=c1:=by
   obtain⟨a',c',h,h2,-⟩:=HR1.out
   simp only [Value.slice.injEq] at h
   omega
  obtain⟨xa,xn,xc,hcut1,hcv1⟩:=Zww a1 l c1 hcap n (by omega)
  obtain⟨ua,uc,hcut2,hcv2⟩:=Zix a1 l c1 hcap n (by omega)
  have HDQ:=ZZ (HDS.out _ (l.take n) W1 (hcv1 W1 HR1.out) (by rw[List.length_take];omega))
  have HV2:=ZZ (fun W h=>hcv2 W (HV1.out W h))
  have HRQ:=ZZ (fun v2 W h=>HRT.out v2 (l.drop n) W h (by rw[List.length_drop];omega))
  have HRM:Hid (ZbD b=if(ZgW (l.take n)).2=3 then(Zbb,3) else match Zeh (l.drop n) with
   | none=>(Zbb,3)
   | some t=>(⟨0,(ZgW (l.take n)).1,t⟩,(ZgW (l.take n)).2)):=ZZ (by rw[HRN.out,if_neg (by omega)])
  have HCO:=ZZ (Zrk (l.take n))
  clear hcv1 hcv2 HRN HDS HRT hll hbig hcap hd g1
  generalize ZgW (l.take n)=DS at *
  generalize Zeh (l.drop n)=TL at *
  generalize l.drop n=l2 at *
  obtain⟨⟨dk,dL,dsh,dg⟩,er⟩:=DS
  unfold ZcI at HDQ
  dsimp only at HDQ HRM HCO
  go_wp2_with fail
  refine HDQ.out.mono ?_
  rintro e W2 ⟨vl,rfl,hl2,hk2,he2,hf2,hb2⟩
  obtain⟨la,lc,hvl⟩:∃ a c,vl=.slice a dL.length c:=by obtain⟨a,c,h,-⟩:=hl2;exact⟨a,c,h⟩
  subst hvl
  have hs12:=HB1.out.size
  have HB2:=ZZ (HB1.out.trans (hb2.mono HB1.out.size))
  have HA2:=ZZ (HA1.out.below hb2 zL)
  have hcell2:W2.cell? ⟨w.heap.size+1,0,none⟩=some (.int .i64 (n:Int)):=(hb2.cell (p:=⟨w.heap.size+1,0,none⟩) (World.block_lt_of_cell? W1 ⟨w.heap.size+1,0,none⟩ hcell)).trans hcell
  have HL2:=ZZ hl2
  have HKE:=ZZ (And.intro hk2 he2)
  have HF2:Hid (∀ k,(Value.slice la dL.length lc).ownBlock=some k->w.heap.size<k):=ZZ (fun k hk=>by
   have h1:=hf2 k hk
   have h2:=HA1.out.lt
   omega)
  clear hcell hl2 hk2 he2 hf2 hb2 HDQ z0 z1 z2 z3 y0 y1 y2 y3 HA1 HR1
  obtain⟨W3,hW3⟩:∃ W3,W3=W2.alloc (.cells #[.int .i64 dk,.slice la dL.length lc,.bool dsh,.int .i64 dg] 38):=⟨_,rfl⟩
  have HB23:Hid (Below W2.heap.size W2 W3):=ZZ (by rw[hW3];exact(Below.refl _ _).alloc zL _)
  have HS3:Hid (Bx W3 W2.heap.size #[.int .i64 dk,.slice la dL.length lc,.bool dsh,.int .i64 dg]):=ZZ (by rw[hW3];exact heap_alloc_new W2 _)
  have HB3:=ZZ (HB2.out.trans (HB23.out.mono HB2.out.size))
  have HA3:=ZZ (HA2.out.below HB23.out zL)
  have hcell3:W3.cell? ⟨w.heap.size+1,0,none⟩=some (.int .i64 (n:Int)):=(HB23.out.cell (p:=⟨w.heap.size+1,0,none⟩) (World.block_lt_of_cell? W2 ⟨w.heap.size+1,0,none⟩ hcell2)).trans hcell2
  have HL3:=ZZ (HL2.out.below HB23.out zL)
  go_upto_region 6 with fail
  rw[<-hW3]
  obtain⟨QB,hQB⟩:∃ QB,QB=W2.heap.size:=⟨_,rfl⟩
  have hQl:w.heap.size<QB:=by have:=HA2.out.lt;omega
  rw[<-hQB] at HS3 ⊢
  clear hW3 hcell2 hQB HL2 HA2 HB2 HB23
  by_cases h3:er=3
  ·have h3':(er == 3)=true:=beq_iff_eq.2 h3
   have HF:Hid ((ZbD b).2=3):=ZZ (by rw[HRM.out,if_pos h3])
   obtain⟨z0,y0⟩:=HA3.out.cell 0
   obtain⟨z1,y1⟩:=HA3.out.cell 1
   obtain⟨z2,y2⟩:=HA3.out.cell 2
   obtain⟨z3,y3⟩:=HA3.out.cell 3
   clear h3
   go_wp2
   refine bodyPost_ret (v:=.tuple #[.agg #[.int .i64 0,.slice none 0 0,.bool false,.int .i64 0],.slice none 0 0,.bool false]) (by simp[results,Tryz.results117,go_sem,z0,z1,z2,z3]) rfl ?_
   exact Zsz.none HF.out (Zfs HB3.out _ zL _ _ _ _)
  have h3':(er == 3)=false:=beq_eq_false_iff_ne.2 h3
  have HH3:=ZZ h3
  clear h3
  go_wp2_with fail
  refine(HRQ.out _ _ (HV2.out W3 (HRW.out.below HB3.out zL))).mono ?_
  rintro e W4 ⟨vt,t,rfl,ho4,hi4,ht4,hb4⟩
  obtain⟨ta,tc,hvt⟩:=ho4.shape
  subst hvt
  have HB4:=ZZ (HB3.out.trans (hb4.mono HB3.out.size))
  have HA4:=ZZ (HA3.out.below hb4 zL)
  have HS4:=ZZ (HS3.out.below hb4 zL)
  have HL4:=ZZ (HL3.out.below hb4 zL)
  have HE4:=ZZ (ho4.rd hi4)
  have HTF:Hid (∀ k,(Value.slice ta t.length tc).ownBlock=some k->w.heap.size<k):=ZZ (fun k hk=>by
   have h1:=(World.ownsRow.lt ho4 k hk).1
   have h2:=HA3.out.lt
   omega)
  have HT4:=ZZ ht4
  clear ho4 hi4 ht4 hb4 hcell3 HA3 HS3 HL3
  obtain⟨z0,y0⟩:=HA4.out.cell 0
  obtain⟨z1,y1⟩:=HA4.out.cell 1
  obtain⟨z2,y2⟩:=HA4.out.cell 2
  obtain⟨z3,y3⟩:=HA4.out.cell 3
  obtain⟨s0,-⟩:=HS4.out.cell 0
  obtain⟨s1,-⟩:=HS4.out.cell 1
  obtain⟨s2,-⟩:=HS4.out.cell 2
  obtain⟨s3,-⟩:=HS4.out.cell 3
  obtain⟨ok,hok⟩:∃ ok,ok=TL.isSome:=⟨_,rfl⟩
  rw[<-hok]
  have HOK:=ZZ hok
  clear hok
  go_wp2
  refine bodyPost_ret (v:=.tuple #[.agg #[.int .i64 dk,.slice la dL.length lc,.bool dsh,.int .i64 dg],.slice ta t.length tc,.bool ok]) (by simp[results,Tryz.results117,go_sem,z0,z1,z2,z3]) rfl ?_
  have hbt:=Zwx W4 w.heap.size (.int .i64 dk) (.slice la dL.length lc) (.bool dsh) (.int .i64 dg)
  refine⟨_,_,⟨dk,dL,dsh,dg⟩,t,ok,rfl,HL4.out.but hbt (.inr fun k hk=>by have:=HF2.out k hk;omega),HKE.out.1,HKE.out.2,HE4.out.but hbt (.inr fun k hk=>by have:=HTF.out k hk;omega),(fun k hk=>Nat.le_of_lt (HF2.out k hk)),(fun k hk=>Nat.le_of_lt (HTF.out k hk)),(fun h=>?_),(fun h=>?_),Zfs HB4.out _ zL _ _ _ _⟩
  ·rw[HRM.out,if_neg HH3.out]
   cases TL with
   | none=>rfl
   | some t'=>rw[h] at HOK;cases HOK.out
  ·cases TL with
   | none=>rw[h] at HOK;cases HOK.out
   | some t'=>
    refine⟨er,by rw[HRM.out,if_neg HH3.out,HT4.out t' rfl],?_⟩
    rcases HCO.out with h1 | ⟨h1,h2 | h2⟩
    ·exact .inl h1
    ·exact absurd h2 HH3.out
    ·exact .inr ⟨h2,h1⟩
def Bq (w:World) (b:Nat) (cs:Array Value):Prop:=w.heap[b]?=some (.cells cs 147 (0,0))
theorem Bq.lt {w:World} {b:Nat} {cs:Array Value} (h:Bq w b cs):b<w.heap.size:=(Array.getElem?_eq_some_iff.1 h).1
theorem Bq.below {w w':World} {b B:Nat} {cs:Array Value} (h:Bq w b cs) (hb:Below B w w') (hB:w.heap.size<=B):Bq w' b cs:=(hb.block b (by have:=h.lt;omega)).trans h
theorem Bq.cell {w:World} {b:Nat} {cs:Array Value} (h:Bq w b cs) (j:Nat):w.cell? ⟨b,j,none⟩=cs[j]?∧w.frozen? ⟨b,j,none⟩=false:=⟨cell_of_row w b j _ _ _ h,frozen_of_row w b j _ _ h⟩
theorem Bq.set {w:World} {b:Nat} {cs:Array Value} (h:Bq w b cs) (j:Nat) (x:Value):Bq (w.setCell ⟨b,j,none⟩ x) b (cs.setIfInBounds j x):=by
 have:=heap_setCell_same w b j _ _ x h
 unfold Bq
 simpa using this
theorem Bq.other {w:World} {b c:Nat} {cs:Array Value} (h:Bq w b cs) (j:Nat) (x:Value) (hne:b≠c):Bq (w.setCell ⟨c,j,none⟩ x) b cs:=(Below.heap_setCell _ _ _ _ hne).trans h
theorem Zwy (w:World) (x y z u:Obj):((((w.alloc x).alloc y).alloc z).alloc u).heap[w.heap.size]?=some x∧((((w.alloc x).alloc y).alloc z).alloc u).heap[w.heap.size+1]?=some y∧((((w.alloc x).alloc y).alloc z).alloc u).heap[w.heap.size+2]?=some z∧((((w.alloc x).alloc y).alloc z).alloc u).heap[w.heap.size+3]?=some u:=by
 obtain⟨h1,h2,h3⟩:=ZjX w x y z
 refine⟨(Below.heap_alloc _ _ _ (by simp;omega)).trans h1,(Below.heap_alloc _ _ _ (by simp)).trans h2,(Below.heap_alloc _ _ _ (by simp)).trans h3,?_⟩
 have:=heap_alloc_new (((w.alloc x).alloc y).alloc z) u
 simpa using this
theorem ZsA {d:List UInt8} (h:¬ (d.length<1∨(d.getD 0 0).toNat≠115)):ZbH d=match ZbY 3 (d.drop 1) with
 | none=>(0,0,0,3)
 | some (ns,l)=>if ns.getD 0 0≠3 then(0,0,0,6) else if l.length≠4 then(0,0,0,3) else(ns.getD 1 0,ns.getD 2 0,Lib.leNat l,0):=by
 unfold ZbH
 rw[if_neg h,ZbY]
 by_cases h1:(Zab (d.drop 1)).2=0
 ·rw[if_pos (.inl h1),if_pos h1]
 rw[if_neg h1,ZbY]
 simp only [List.drop_drop]
 by_cases h2:(Zab (d.drop (1+(Zab (d.drop 1)).2))).2=0
 ·rw[if_pos (.inr (.inl h2)),if_pos h2]
  rfl
 rw[if_neg h2,ZgO]
 simp only [List.drop_drop]
 by_cases h3:(Zab (d.drop (1+(Zab (d.drop 1)).2+(Zab (d.drop (1+(Zab (d.drop 1)).2))).2))).2=0
 ·rw[if_pos (.inr (.inr h3)),if_pos h3]
  rfl
 ·rw[if_neg (by omega),if_neg h3]
  simp only [Option.map_some,List.getD_cons_zero,List.getD_cons_succ]
theorem Zok:∀ (n:Nat) (b:List UInt8) (ns:List Nat) (l:List UInt8),ZbY n b=some (ns,l)->ns.length=n
 | 0,b,ns,l,h=>by
  injection h with h
  injection h with h _
  rw[<-h]
  rfl
 | n+1,b,ns,l,h=>by
  rw[ZbY] at h
  split at h
  ·cases h
  ·cases hg:ZbY n (b.drop (Zab b).2) with
   | none=>rw[hg] at h;cases h
   | some r=>
    rw[hg] at h
    injection h with h
    injection h with h _
    obtain⟨ms,m⟩:=r
    rw[<-h,List.length_cons,Zok n _ ms m hg]
theorem ZuS {W:World} {R Q:Nat} (hne:R≠Q) (h:Bq W R #[.int .i64 0,.int .i64 0,.int .u32 0]) (hq:W.heap[Q]?=some (.cells #[.int .i64 0] 3 (0,0))) (ns:List Nat) (hn:ns.length<=3):
 ∃ u x y:Int,Bq (ZbK W ([(Q,0),(R,0),(R,1)].take ns.length) ns) R #[.int .i64 x,.int .i64 y,.int .u32 0]∧(ZbK W ([(Q,0),(R,0),(R,1)].take ns.length) ns).cell? ⟨Q,0,none⟩=some (.int .i64 u)∧(ns.length=3->u=((ns.getD 0 0:Nat):Int)∧x=((ns.getD 1 0:Nat):Int)∧y=((ns.getD 2 0:Nat):Int)):=by
 have hq0:W.cell? ⟨Q,0,none⟩=some (.int .i64 0):=cell_of_row W Q 0 _ _ _ hq
 match ns,hn with
 | [],_=>exact⟨0,0,0,h,hq0,fun h=>absurd h (by simp)⟩
 | [a],_=>exact⟨a,0,0,h.other 0 _ hne,World.cell?_setCell_same _ _ _ hq0,fun h=>absurd h (by simp)⟩
 | [a,b],_=>
  refine⟨a,b,0,(h.other 0 _ hne).set 0 _,?_,fun h=>absurd h (by simp)⟩
  show((W.setCell ⟨Q,0,none⟩ _).setCell ⟨R,0,none⟩ _).cell? ⟨Q,0,none⟩=_
  rw[World.cell?_setCell_other _ _ _ _ (by simp)]
  exact World.cell?_setCell_same _ _ _ hq0
 | [a,b,c],_=>
  refine⟨a,b,c,((h.other 0 _ hne).set 0 _).set 1 _,?_,fun _=>⟨rfl,rfl,rfl⟩⟩
  show(((W.setCell ⟨Q,0,none⟩ _).setCell ⟨R,0,none⟩ _).setCell ⟨R,1,none⟩ _).cell? ⟨Q,0,none⟩=_
  rw[World.cell?_setCell_other _ _ _ _ (by simp),World.cell?_setCell_other _ _ _ _ (by simp)]
  exact World.cell?_setCell_same _ _ _ hq0
def ZyL (w:World) (r:Nat × Nat × Nat × Int) (e:Ending) (w':World):Prop:=
 e=.returned (.tuple #[.agg #[.int .i64 (r.1:Int),.int .i64 (r.2.1:Int),.int .u32 (r.2.2.1:Int)],.int .i64 r.2.2.2])∧Below w.heap.size w w'
theorem ZgP {C:Nat} {w0 w:World} (h:Below C w0 w) (R:Nat) (hR:C<=R) (x0 x1 x2:Value):Below C w0 (((w.setCell ⟨R,0,none⟩ x0).setCell ⟨R,1,none⟩ x1).setCell ⟨R,2,none⟩ x2):=
 ((h.setCell hR _).setCell hR _).setCell hR _
theorem Zim (v:Value) (d:List UInt8) (w:World) (hr:Rd w v d):
 Calls Tryz.prog 115 #[v] w fun e w'=>ZyL w (ZbH d) e w':=by
 have HR:=ZZ hr
 obtain⟨ao,cap,rfl,hlc,hcm,-,hao⟩:=hr
 have hml:(d.length:Int)<=9223372036854775807:=by unfold maxLen at hcm;omega
 have HB0:Hid (∀ X,Below w.heap.size w (w.alloc X)):=fun X=>(Below.refl _ _).alloc zL X
 by_cases h0:d.length=0
 ·have HE:Hid (ZbH d=(0,0,0,3)):=ZZ (by unfold ZbH;rw[if_pos (.inl (by omega))])
  have h0':((d.length:Int) == 0)=true:=by rw[beq_iff_eq];omega
  rw[HE.out]
  clear h0 hao
  go_enter Tryz.func115,Tryz.ntmps115
  go_wp2
  refine bodyPost_ret (v:=.tuple #[.agg #[.int .i64 0,.int .i64 0,.int .u32 0],.int .i64 3]) (by simp[results,Tryz.results115,go_sem]) rfl ?_
  exact⟨rfl,HB0.out _⟩
 have h0':((d.length:Int) == 0)=false:=beq_eq_false_iff_ne.2 (by omega)
 have hpos:(0:Int)<(d.length:Int):=by omega
 have hne:d≠[]:=fun e=>by rw[e] at h0;simp at h0
 rcases hao with he | ⟨b,off,rfl,hc⟩
 ·exact absurd he hne
 have hc0:=hc 0 (by omega)
 have hbl:b<w.heap.size:=World.block_lt_of_cell? w ⟨b,off+0,none⟩ hc0
 have hck:∀ X,(w.alloc X).cell? ⟨b,off,none⟩=some (.int .u8 ((d.getD 0 0).toNat:Nat)):=fun X=>((HB0.out X).cell (p:=⟨b,off,none⟩) hbl).trans hc0
 clear hc hc0 hcm
 by_cases hm:(d.getD 0 0).toNat=115
 case neg=>
  have HE:Hid (ZbH d=(0,0,0,3)):=ZZ (by unfold ZbH;rw[if_pos (.inr hm)])
  have hm':((((d.getD 0 0).toNat:Nat):Int) != 115)=true:=by
   rw[bne_iff_ne]
   omega
  rw[HE.out]
  clear hm hne h0
  generalize (((d.getD 0 0).toNat:Nat):Int)=c0 at *
  go_enter Tryz.func115,Tryz.ntmps115
  go_wp2
  refine bodyPost_ret (v:=.tuple #[.agg #[.int .i64 0,.int .i64 0,.int .u32 0],.int .i64 3]) (by simp[results,Tryz.results115,go_sem]) rfl ?_
  exact⟨rfl,HB0.out _⟩
 have hm':((((d.getD 0 0).toNat:Nat):Int) != 115)=false:=by
  rw[hm]
  rfl
 have HMG:=ZZ (ZsA (d:=d) (by omega))
 generalize (((d.getD 0 0).toNat:Nat):Int)=c0 at *
 obtain⟨xa,xc,hcut,hcv⟩:=Zix (some ⟨b,off,none⟩) d cap hlc 1 (by omega)
 have hcut':∀ W,(Instr.sliceAt 53 (.slice (some ⟨b,off,none⟩) d.length cap) (some (.int .i64 1)) none none).run Tryz.prog W=.ok (.slice xa (d.drop 1).length xc) W:=hcut
 have HCV:=ZZ (fun W h=>hcv W h)
 obtain⟨W0,hW0⟩:∃ W0,W0=(((w.alloc (.cells #[.int .i64 0,.int .i64 0,.int .u32 0] 147)).alloc (.cells #[.int .i64 0,.int .i64 0,.int .u32 0] 147)).alloc (.cells #[.int .i64 0] 3)).alloc (.cells #[.pointer (some ⟨w.heap.size+1+1,0,none⟩),.pointer (some ⟨w.heap.size+1,0,none⟩),.pointer (some ⟨w.heap.size+1,1,none⟩)] 208):=⟨_,rfl⟩
 have h4:=Zwy w (.cells #[.int .i64 0,.int .i64 0,.int .u32 0] 147) (.cells #[.int .i64 0,.int .i64 0,.int .u32 0] 147) (.cells #[.int .i64 0] 3) (.cells #[.pointer (some ⟨w.heap.size+1+1,0,none⟩),.pointer (some ⟨w.heap.size+1,0,none⟩),.pointer (some ⟨w.heap.size+1,1,none⟩)] 208)
 rw[<-hW0] at h4
 obtain⟨hA,hB,hQ,hC⟩:=h4
 have HB00:Hid (Below w.heap.size w W0):=ZZ (by rw[hW0];exact((((Below.refl _ _).alloc zL _).alloc (by simp) _).alloc (by simp;omega) _).alloc (by simp;omega) _)
 have hEA:Bq W0 w.heap.size #[.int .i64 0,.int .i64 0,.int .u32 0]:=hA
 have hEB:Bq W0 (w.heap.size+1) #[.int .i64 0,.int .i64 0,.int .u32 0]:=hB
 have HGN:=ZZ (ZcH (w.heap.size+1+1+1) [(w.heap.size+1+1,0),(w.heap.size+1,0),(w.heap.size+1,1)] (.slice xa (d.drop 1).length xc) (d.drop 1) W0 (HCV.out W0 (HR.out.below HB00.out zL)) (fun p hp=>by
  simp only [List.mem_cons,List.not_mem_nil,or_false] at hp
  rcases hp with rfl | rfl | rfl
  ·exact⟨⟨⟨0,cell_of_row W0 (w.heap.size+2) 0 _ _ _ hQ⟩,frozen_of_row W0 (w.heap.size+2) 0 _ _ hQ⟩,by simp⟩
  ·exact⟨⟨⟨0,(hEB.cell 0).1⟩,(hEB.cell 0).2⟩,by simp⟩
  ·exact⟨⟨⟨0,(hEB.cell 1).1⟩,(hEB.cell 1).2⟩,by simp⟩) (by simp) hC 3 rfl)
 have HBX:=ZZ (fun ns h=>ZuS (Q:=w.heap.size+1+1) (by omega) hEB hQ ns h)
 have HSB:Hid (∀ ns,Below w.heap.size w (ZbK W0 ([(w.heap.size+1+1,0),(w.heap.size+1,0),(w.heap.size+1,1)].take (List.length ns)) ns)):=ZZ (fun ns=>ZdD W0 _ ns _ w (fun p hp=>by
  have:=List.mem_of_mem_take hp
  simp only [List.mem_cons,List.not_mem_nil,or_false] at this
  rcases this with rfl | rfl | rfl <;> (simp only;omega)) HB00.out)
 have HSA:Hid (∀ ns,Bq (ZbK W0 ([(w.heap.size+1+1,0),(w.heap.size+1,0),(w.heap.size+1,1)].take (List.length ns)) ns) w.heap.size #[.int .i64 0,.int .i64 0,.int .u32 0]):=ZZ (fun ns=>(ZdC W0 _ ns _ (fun p hp=>by
  have:=List.mem_of_mem_take hp
  simp only [List.mem_cons,List.not_mem_nil,or_false] at this
  rcases this with rfl | rfl | rfl <;> (simp only;omega))).trans hEA)
 have HFX:=ZZ (fun v1 l W h=>Znn v1 l W h)
 have HLN:=ZZ (fun ns l h=>Zok 3 (d.drop 1) ns l h)
 have HLEN:Hid ([(w.heap.size+1+1,0),(w.heap.size+1,0),(w.heap.size+1,1)].length=3):=ZZ rfl
 rw[HLEN.out] at HGN
 generalize ZbY 3 (d.drop 1)=GL at *
 obtain⟨RM,hRM⟩:∃ RM,RM=ZbH d:=⟨_,rfl⟩
 rw[<-hRM] at HMG ⊢
 clear hRM hcut hcv hA hB hQ hC hEA hEB hm hne h0 HLEN
 generalize d.drop 1=D1 at *
 go_enter Tryz.func115,Tryz.ntmps115
 go_wp2_with fail
 rw[<-hW0]
 refine HGN.out.mono ?_
 rintro e W1 ⟨v1,l,ns,rfl,hr1,hn1,hs1,hlt1,hle1,hal1⟩
 obtain⟨uu,xx,yy,hbx,hbq,hxy⟩:=HBX.out ns hle1
 have HE1:Hid (Bq W1 (w.heap.size+1) #[.int .i64 xx,.int .i64 yy,.int .u32 0]):=ZZ (hbx.below (hal1.below (ZbK W0 ([(w.heap.size+1+1,0),(w.heap.size+1,0),(w.heap.size+1,1)].take ns.length) ns).heap.size) zL)
 have HA1:Hid (Bq W1 w.heap.size #[.int .i64 0,.int .i64 0,.int .u32 0]):=ZZ ((HSA.out ns).below (hal1.below (ZbK W0 ([(w.heap.size+1+1,0),(w.heap.size+1,0),(w.heap.size+1,1)].take ns.length) ns).heap.size) zL)
 have hcv:W1.cell? ⟨w.heap.size+1+1,0,none⟩=some (.int .i64 uu):=by rw[hal1.cell];exact hbq
 have HB1:Hid (Below w.heap.size w W1):=ZZ ((HSB.out ns).trans (hal1.below _))
 have HR1:=ZZ (hr1 W1 (HCV.out W1 (HR.out.below HB1.out zL)))
 obtain⟨a1,c1,hv1⟩:∃ a c,v1=.slice a l.length c:=by obtain⟨a,c,h,-⟩:=HR1.out;exact⟨a,c,h⟩
 subst hv1
 obtain⟨z0,y0⟩:=HA1.out.cell 0
 obtain⟨z1,y1⟩:=HA1.out.cell 1
 obtain⟨z2,y2⟩:=HA1.out.cell 2
 clear HGN HBX HSB HSA hW0 hbx hbq hal1 hr1 hlt1 hle1 HB00 hck hcut' HB0
 cases GL with
 | none=>
  have HE:Hid (RM=(0,0,0,3)):=ZZ HMG.out
  clear hn1 hs1 hxy HMG HLN
  go_wp2
  refine bodyPost_ret (v:=.tuple #[.agg #[.int .i64 0,.int .i64 0,.int .u32 0],.int .i64 3]) (by simp[results,Tryz.results115,go_sem,z0,z1,z2]) rfl ?_
  rw[HE.out]
  exact⟨rfl,ZgP HB1.out _ zL _ _ _⟩
 | some gp=>
  have:=hs1 gp rfl
  subst this
  obtain⟨g1,g2,g3⟩:=hxy (HLN.out _ _ rfl)
  have HM2:Hid (RM=if ns.getD 0 0≠3 then(0,0,0,6) else if l.length≠4 then(0,0,0,3) else(ns.getD 1 0,ns.getD 2 0,Lib.leNat l,0)):=ZZ HMG.out
  clear hn1 hs1 hxy HMG HLN
  generalize ns.getD 0 0=n0 at *
  generalize ns.getD 1 0=n1 at *
  generalize ns.getD 2 0=n2 at *
  subst g1 g2 g3
  by_cases hv3:n0=3
  case neg=>
   have HE:Hid (RM=(0,0,0,6)):=ZZ (by rw[HM2.out,if_pos hv3])
   have hv3':((n0:Int) != 3)=true:=by rw[bne_iff_ne];omega
   clear hv3 HM2
   go_wp2
   refine bodyPost_ret (v:=.tuple #[.agg #[.int .i64 0,.int .i64 0,.int .u32 0],.int .i64 6]) (by simp[results,Tryz.results115,go_sem,z0,z1,z2]) rfl ?_
   rw[HE.out]
   exact⟨rfl,ZgP HB1.out _ zL _ _ _⟩
  have hv3':((n0:Int) != 3)=false:=by rw[bne_eq_false_iff_eq];omega
  by_cases hl4:l.length=4
  case neg=>
   have HE:Hid (RM=(0,0,0,3)):=ZZ (by rw[HM2.out,if_neg (by omega),if_pos hl4])
   have hl4':((l.length:Int) != 4)=true:=by rw[bne_iff_ne];omega
   clear hv3 HM2 hl4
   go_wp2
   refine bodyPost_ret (v:=.tuple #[.agg #[.int .i64 0,.int .i64 0,.int .u32 0],.int .i64 3]) (by simp[results,Tryz.results115,go_sem,z0,z1,z2]) rfl ?_
   rw[HE.out]
   exact⟨rfl,ZgP HB1.out _ zL _ _ _⟩
  have hl4':((l.length:Int) != 4)=false:=by rw[bne_eq_false_iff_eq];omega
  have HE:Hid (RM=(n1,n2,Lib.leNat l,0)):=ZZ (by rw[HM2.out,if_neg (by omega),if_neg (by omega)])
  have HFQ:=ZZ (HFX.out _ l W1 HR1.out)
  rw[List.take_of_length_le (by omega)] at HFQ
  have hlt:Lib.leNat l<4294967296:=by
   have:=ZlV l
   rw[hl4] at this
   exact this
  have HL4:Hid (l.length=4):=ZZ hl4
  generalize Lib.leNat l=cc at *
  clear hv3 HM2 hl4
  obtain⟨e0,f0⟩:=HE1.out.cell 0
  obtain⟨e1,f1⟩:=HE1.out.cell 1
  obtain⟨e2,f2⟩:=HE1.out.cell 2
  have hne1:¬ (w.heap.size=w.heap.size+1):=by omega
  have hne2:¬ (w.heap.size+1=w.heap.size):=by omega
  have hcv32:IntKind.u32.wrap (cc:Int)=(cc:Int):=by
   rw[IntKind.wrap_u32]
   omega
  have hci:(0:Int)<=(cc:Int):=by omega
  have hcj:(cc:Int)<4294967296:=by omega
  obtain⟨CC,hCC⟩:∃ CC:Int,CC=(cc:Int):=⟨_,rfl⟩
  obtain⟨N1,hN1⟩:∃ N1:Int,N1=(n1:Int):=⟨_,rfl⟩
  obtain⟨N2,hN2⟩:∃ N2:Int,N2=(n2:Int):=⟨_,rfl⟩
  rw[<-hCC] at HFQ hcv32 hci hcj
  rw[<-hN1] at e0
  rw[<-hN2] at e1
  have HCC:=ZZ hCC
  have HN1:=ZZ hN1
  have HN2:=ZZ hN2
  clear hCC hN1 hN2 hlt
  clear HL4
  go_wp2_with fail
  refine HFQ.out.mono ?_
  rintro e W2 ⟨rfl,hw2⟩
  rw[hw2]
  clear hw2 W2
  go_wp2
  refine bodyPost_ret (v:=.tuple #[.agg #[.int .i64 N1,.int .i64 N2,.int .u32 CC],.int .i64 0]) (by simp[results,Tryz.results115,go_sem,z0,z1,z2]) rfl ?_
  rw[HE.out]
  exact⟨by rw[HCC.out,HN1.out,HN2.out],ZgP (HB1.out.setCell (Nat.le_succ _) _) _ zL _ _ _⟩
end Go.Proofs.YtnahjngbneicaaaGreatDoor
